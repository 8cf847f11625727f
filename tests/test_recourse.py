"""Who may be asked, in which runs, and who bears the loss (points 9 and 11)."""

import inspect
import random
import unittest

from allonge import recourse
from allonge.errors import Closed, NoBill, NoHouse, NotPresented
from allonge.recourse import bearer, liable, open_places, runs
from halls import HUGE, HallCase, chain, five, hall_of, protested, purses_of, signed, told, unpaid

INTERFACE = {"open_places": "hall bill", "runs": "hall bill", "bearer": "hall bill", "liable": "hall name"}
NO_BILLS = (0, -1, 2, 41, HUGE, -HUGE)


class InterfaceTest(unittest.TestCase):
    def test_names_and_arguments(self):
        for name, arguments in INTERFACE.items():
            with self.subTest(name=name):
                function = getattr(recourse, name)
                self.assertEqual(function.__module__, "allonge.recourse")
                self.assertEqual(list(inspect.signature(function).parameters), arguments.split())


class OpenPlacesTest(HallCase):
    def test_in_every_state(self):
        hall = five()
        signed(hall, [("dora", True), ("emil", True)])
        self.assertEqual(open_places(hall, 1), [])
        unpaid(hall, 1)
        self.assertEqual(open_places(hall, 1), [0])
        hall.protest(1, 1)
        self.assertEqual(open_places(hall, 1), [0, 1, 2, 3])
        hall.ask(1, 1, 2)
        self.assertEqual(open_places(hall, 1), [0, 1])
        hall.ask(1, 1, 0)
        self.assertEqual(open_places(hall, 1), [])

    def test_a_bill_paid_when_presented_has_none(self):
        hall = five()
        hall.present(signed(hall, []), 1)
        self.assertEqual(open_places(hall, 1), [])

    def test_a_drawee_who_did_not_accept_is_not_asked(self):
        hall = five()
        signed(hall, [("dora", True)], accepted=False)
        unpaid(hall, 1)
        self.assertEqual(open_places(hall, 1), [])
        hall.protest(1, 1)
        self.assertEqual(open_places(hall, 1), [1, 2])

    def test_free_places_and_the_holder_s_reach(self):
        hall = five()
        signed(hall, [("dora", False), ("emil", True), ("anna", True), ("dora", True)], drawer_bound=False)
        protested(hall, 1)
        # Dora holds the bill and is bound at place 3.
        self.assertEqual(open_places(hall, 1), [0])

    def test_who_can_pay_is_not_asked(self):
        hall, bill = chain()
        for name in hall.names():
            hall.fail(name)
        self.assertEqual(open_places(hall, bill), [0, 1, 2, 3, 4])

    def test_unknown_bills(self):
        hall = five()
        signed(hall, [])
        for bill in NO_BILLS:
            self.assert_question_refused(NoBill, open_places, hall, bill)

    def test_a_told_list_that_is_changed_changes_nothing(self):
        hall, bill = chain()
        before = told(hall)
        places = open_places(hall, bill)
        self.assertIsInstance(places, list)
        places.clear()
        self.assertEqual(open_places(hall, bill), [0, 1, 2, 3, 4])
        self.assertEqual(told(hall), before)


class RunsTest(HallCase):
    def test_all_can_pay(self):
        hall = five()
        signed(hall, [("dora", True), ("emil", True)])
        protested(hall, 1)
        self.assertEqual(runs(hall, 1), [[0], [1, 0], [2, 0], [2, 1, 0], [3, 0], [3, 1, 0], [3, 2, 0], [3, 2, 1, 0]])
        self.assertEqual(bearer(hall, 1), "anna")

    def test_who_is_failed_or_poor_is_passed_over(self):
        hall = five()
        signed(hall, [("dora", True), ("emil", True)])
        protested(hall, 1)
        hall.fail("anna")
        hall.take_out("carl", 91)
        self.assertEqual(runs(hall, 1), [[1], [3, 1]])
        self.assertEqual(bearer(hall, 1), "bert")
        hall.put_in("carl", 1)
        self.assertEqual(runs(hall, 1), [[1], [2, 1], [3, 1], [3, 2, 1]])
        hall.fail("bert")
        self.assertEqual((runs(hall, 1), bearer(hall, 1)), ([[2], [3, 2]], "carl"))

    def test_nobody_can_pay(self):
        hall = five()
        signed(hall, [("dora", True), ("emil", True)])
        protested(hall, 1)
        for name in hall.names():
            hall.fail(name)
        self.assertEqual((runs(hall, 1), bearer(hall, 1)), ([[]], "emil"))

    def test_an_unpaid_bill(self):
        hall = five()
        signed(hall, [("dora", True)])
        unpaid(hall, 1)
        self.assertEqual((runs(hall, 1), bearer(hall, 1)), ([[0]], "anna"))
        hall.fail("anna")
        self.assertEqual((runs(hall, 1), bearer(hall, 1)), ([[]], "dora"))

    def test_a_house_at_several_places(self):
        hall = five()
        signed(hall, [("anna", True), ("carl", False), ("dora", True)], accepted=False)
        protested(hall, 1)
        row = [("anna", False), ("bert", True), ("carl", True), ("anna", False), ("carl", True)]
        self.assertEqual(hall.row(1), row)
        self.assertEqual(runs(hall, 1), [[1], [2, 1], [4, 1]])
        hall.fail("bert")
        self.assertEqual((runs(hall, 1), bearer(hall, 1)), ([[2], [4]], "carl"))

    def test_drawer_drawee_and_payee_the_same(self):
        hall = hall_of(anna=100, bert=100)
        signed(hall, [("bert", True)], drawer="anna", payee="anna")
        protested(hall, 1)
        self.assertEqual((runs(hall, 1), bearer(hall, 1)), ([[0], [1], [2]], "anna"))

    def test_as_many_runs_as_can_be(self):
        hall = hall_of(**{name: 10 for name in "abcdefghi"})
        signed(hall, [(name, True) for name in "defghi"], drawer="b", drawee="a", payee="c")
        protested(hall, 1)
        self.assertEqual(len(runs(hall, 1)), 128)
        self.assertEqual(runs(hall, 1)[-1], [7, 6, 5, 4, 3, 2, 1, 0])

    def test_states_and_unknown_bills(self):
        hall = five()
        signed(hall, [])
        for question in (runs, bearer):
            for bill in NO_BILLS:
                self.assert_question_refused(NoBill, question, hall, bill)
            self.assert_question_refused(NotPresented, question, hall, 1)
        hall.present(1, 1)
        for question in (runs, bearer):
            self.assert_question_refused(Closed, question, hall, 1)

    def test_a_bill_asked_at_place_0_is_closed(self):
        hall, bill = chain()
        hall.ask(bill, 1, 0)
        for question in (runs, bearer):
            self.assert_question_refused(Closed, question, hall, bill)

    def test_told_lists_that_are_changed_change_nothing(self):
        hall, bill = chain()
        before, kept = told(hall), runs(hall, bill)
        answer = runs(hall, bill)
        answer[0].append(9)
        answer[1].clear()
        del answer[2:]
        self.assertEqual(runs(hall, bill), kept)
        self.assertEqual(told(hall), before)
        for name in hall.names():
            hall.fail(name)
        runs(hall, bill)[0].append(9)
        self.assertEqual(runs(hall, bill), [[]])


def came_back(seed):
    """A hall with a protested or an unpaid bill whose houses stand at several places; always the same one."""
    chance = random.Random(seed)
    names = ["anna", "bert", "carl", "dora", "emil"]
    hall = hall_of(**{name: chance.choice((0, 10, 30)) for name in names})
    signed(hall, [], drawer=chance.choice(names), drawee=chance.choice(names), payee=chance.choice(names),
           accepted=chance.random() < 0.6, drawer_bound=chance.random() < 0.7)
    for number in range(chance.randint(0, 6)):
        to = chance.choice([name for name in names if name != hall.holder(1)])
        hall.sign(1, 1, to, chance.random() < 0.8)
    hall.fail(hall.paper(1)[1])
    if hall.present(1, 1):
        return None
    if chance.random() < 0.8:
        hall.protest(1, 1)
    if chance.random() < 0.6:
        hall.mend(hall.paper(1)[1])
    return hall


class BehindRunsTest(HallCase):
    def able_places(self, hall):
        if hall.state(1) == "paid":
            return []
        row = hall.row(1)
        return [place for place in open_places(hall, 1) if hall.can_pay(row[place][0], 10)]

    def all_ends(self, hall, asked):
        """Ask in every way until nobody who can pay is left; the lists of places and the halls behind them."""
        places = self.able_places(hall)
        if not places:
            return [(asked, hall)]
        ends = []
        for place in places:
            other = hall.twin()
            other.ask(1, 1, place)
            ends.extend(self.all_ends(other, [*asked, place]))
        return ends

    def test_the_runs_are_what_asking_gives(self):
        many = 0
        for seed in range(150):
            hall = came_back(seed)
            if hall is None:
                continue
            ends = self.all_ends(hall, [])
            self.assertEqual(runs(hall, 1), sorted([asked for asked, behind in ends]), seed)
            many += len(ends) > 1
            purses = purses_of(hall)
            purses[hall.holder(1)] += 10
            purses[bearer(hall, 1)] -= 10
            for asked, behind in ends:
                self.assertEqual(behind.holder(1), bearer(hall, 1), (seed, asked))
                self.assertEqual(purses_of(behind), purses, (seed, asked))
        self.assertGreater(many, 20)


class LiableTest(HallCase):
    def test_all_open_places_of_a_house_in_order(self):
        hall = five()
        signed(hall, [("dora", True), ("carl", True), ("emil", True)])
        signed(hall, [("emil", True)])
        signed(hall, [], drawer="carl", payee="dora")
        signed(hall, [("emil", True)])
        signed(hall, [("emil", False)])
        self.assertEqual([liable(hall, name) for name in hall.names()], [[], [], [], [], []])
        for bill in (5, 1, 3):
            protested(hall, bill)
        unpaid(hall, 2)
        hall.present(4, 1)
        self.assertEqual(liable(hall, "anna"), [(1, 0), (2, 0), (3, 0), (5, 0)])
        self.assertEqual(liable(hall, "bert"), [(1, 1), (5, 1)])
        self.assertEqual(liable(hall, "carl"), [(1, 2), (1, 4), (3, 1)])
        self.assertEqual(liable(hall, "dora"), [(1, 3)])
        self.assertEqual(liable(hall, "emil"), [])

    def test_a_bound_place_behind_the_holder_s_reach_is_not_told(self):
        hall = five()
        signed(hall, [("dora", True), ("carl", True)])
        protested(hall, 1)
        houses = ("anna", "bert", "carl", "dora")
        self.assertEqual([liable(hall, name) for name in houses], [[(1, 0)], [(1, 1)], [], []])

    def test_whether_the_house_can_pay_is_not_asked(self):
        hall, bill = chain()
        hall.fail("carl")
        self.assertEqual(liable(hall, "carl"), [(1, 2)])

    def test_behind_asking_and_honouring(self):
        hall, bill = chain()
        hall.ask(bill, 1, 3)
        self.assertEqual([liable(hall, name) for name in ("carl", "dora", "emil")], [[(1, 2)], [], []])
        hall.honour(bill, 1, "gret", 0)
        self.assertEqual([liable(hall, name) for name in ("anna", "bert", "carl")], [[(1, 0)], [], []])
        hall.ask(bill, 1, 0)
        self.assertEqual(liable(hall, "anna"), [])

    def test_unknown_houses(self):
        hall, bill = chain()
        for name in ("zora", "", "Anna", "ann", "a\nb"):
            self.assert_question_refused(NoHouse, liable, hall, name)

    def test_told_in_pairs_and_in_a_new_list(self):
        hall, bill = chain()
        before = told(hall)
        answer = liable(hall, "carl")
        self.assertIs(type(answer[0]), tuple)
        answer.append((9, 9))
        answer[0] = None
        self.assertEqual(liable(hall, "carl"), [(1, 2)])
        self.assertEqual(told(hall), before)


if __name__ == "__main__":
    unittest.main()
