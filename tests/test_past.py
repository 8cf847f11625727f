"""Deeds done as a story tells them, and halls at a moment (point 17)."""

import inspect
import itertools
import unittest

from allonge import errors, past
from allonge.errors import NoMoment
from allonge.hall import Hall
from allonge.past import do_deed, hall_at
from halls import HUGE, METHODS, HallCase, hall_of, told
from stories import DEEDS, REFUSALS, do, grown, hall_behind, tries
from test_refusal_order import ORDERS

SEEDS = range(6)
MANY = 420


def grown_with_pictures(seed, many):
    """A hall with a long story, and all that it told at each moment."""
    hall = Hall()
    pictures = [told(hall)]
    for word, parts in tries(seed, many, hall):
        try:
            getattr(hall, METHODS[word])(*parts)
        except errors.HallError:
            continue
        pictures.append(told(hall))
    return hall, pictures


def as_told(word, parts):
    """A deed as the story tells it: the names of a fair as a tuple."""
    return word, *[tuple(part) if isinstance(part, list) else part for part in parts]


class PastCase(HallCase):
    def assert_no_moment(self, hall, moment):
        before = told(hall)
        with self.assertRaises(errors.HallError, msg=moment) as caught:
            hall_at(hall, moment)
        self.assertIs(caught.exception.__class__, NoMoment)
        self.assertEqual(told(hall), before)


class InterfaceTest(unittest.TestCase):
    def test_names_and_arguments(self):
        for name, parts in (("do_deed", ["hall", "deed"]), ("hall_at", ["hall", "moment"])):
            function = getattr(past, name)
            self.assertEqual(function.__module__, "allonge.past")
            self.assertEqual(list(inspect.signature(function).parameters), parts)


class DoDeedTest(PastCase):
    def test_each_word_does_and_tells_what_its_method_does(self):
        by_method, by_deed = Hall(), Hall()
        for moment, (deed, tells) in enumerate(DEEDS):
            answer = do_deed(by_deed, deed)
            self.assertEqual(answer, do(by_method, deed), deed)
            self.assertEqual((answer, type(answer)), (tells, type(tells)), deed)
            self.assertEqual(by_deed.story(), [done for done, tells in DEEDS[:moment + 1]])
            self.assertEqual(told(by_deed), told(by_method), deed)
        self.assertEqual({deed[0] for deed, tells in DEEDS}, set(METHODS))

    def test_the_story_keeps_the_kinds(self):
        hall = Hall()
        for deed, tells in DEEDS:
            do_deed(hall, deed)
            self.assertIs(type(hall.story()[-1]), tuple)
            for part, wanted in zip(hall.story()[-1], deed, strict=True):
                self.assertIs(type(part), type(wanted), deed)

    def test_bound_and_free(self):
        for bound in (True, False):
            hall = hall_of(anna=5, bert=5, carl=5)
            do_deed(hall, ("draw", "anna", "bert", "carl", 1, 0, bound))
            do_deed(hall, ("sign", 1, 1, "anna", not bound))
            do_deed(hall, ("blank", 1, 1, "bert", bound))
            row = [("bert", False), ("anna", bound), ("carl", not bound), ("anna", bound)]
            self.assert_bill(hall, 1, "running", "bert", row, True)

    def test_signed_in_blank_and_not(self):
        for word, blank in (("sign", False), ("blank", True)):
            hall = hall_of(anna=5, bert=5)
            hall.draw("anna", "anna", "anna", 1, 0, True)
            self.assertIsNone(do_deed(hall, (word, 1, 1, "bert", True)))
            self.assertIs(hall.in_blank(1), blank)
            self.assertEqual(hall.story()[-1], (word, 1, 1, "bert", True))

    def test_each_refusal_is_that_of_the_method(self):
        seen = set()
        for word, make, order, apart in ORDERS:
            for many in (1, 2):
                for has in itertools.combinations(order.split(), many):
                    if any(set(pair.split()) <= set(has) for pair in apart):
                        continue
                    (by_method, parts), (by_deed, same) = make(has), make(has)
                    self.assert_refused(getattr(errors, has[0]), by_method, word, *parts)
                    with self.assertRaises(errors.HallError, msg=(word, has)) as caught:
                        do_deed(by_deed, as_told(word, same))
                    self.assertEqual(caught.exception.__class__.__name__, has[0], (word, has))
                    self.assertEqual(told(by_deed), told(by_method), (word, has))
                    seen.add((word, has[0]))
        self.assertEqual(seen, {(word, name) for word, names in REFUSALS.items() for name in names.split()})

    def test_a_hundred_deeds_by_chance_done_and_refused(self):
        for seed in SEEDS:
            by_method, by_deed = Hall(), Hall()
            for word, parts in tries(seed, 150, by_method):
                try:
                    answer = do_deed(by_deed, as_told(word, parts))
                except errors.HallError as refusal:
                    self.assert_refused(refusal.__class__, by_method, word, *parts)
                else:
                    self.assertEqual(answer, getattr(by_method, METHODS[word])(*parts))
                self.assertEqual(told(by_deed), told(by_method), (seed, word, parts))

    def test_a_told_story_done_again_gives_a_hall_that_is_alike(self):
        for seed in SEEDS:
            hall, again = grown(seed, MANY), Hall()
            for deed in hall.story():
                do_deed(again, deed)
            self.assertEqual(told(again), told(hall))

    def test_a_fair_tells_a_new_list_and_keeps_none(self):
        hall = hall_behind(len(DEEDS) - 2)
        names = ("dora", "bert")
        paid = do_deed(hall, ("fair", names))
        self.assertEqual(paid, [4])
        before = told(hall)
        paid.append(1)
        self.assertEqual(told(hall), before)
        self.assertEqual(hall.story()[-1], ("fair", ("dora", "bert")))
        self.assertEqual(names, ("dora", "bert"))

    def test_only_the_hall_that_is_handed_in_changes(self):
        hall, other = hall_behind(10), hall_behind(10)
        before = told(other)
        do_deed(hall, ("days", 3))
        do_deed(hall, ("in", "anna", 3))
        self.assertEqual(told(other), before)
        self.assertEqual((hall.today(), hall.coins("anna")), (3, 103))


class HallAtTest(PastCase):
    def test_every_moment_of_a_story_with_each_word(self):
        hall = hall_behind(len(DEEDS))
        for moment in range(len(DEEDS) + 1):
            other = hall_at(hall, moment)
            self.assertIs(type(other), Hall)
            self.assertIsNot(other, hall)
            self.assertEqual(other.moment(), moment)
            self.assertEqual(other.story(), hall.story()[:moment])
            self.assertEqual(told(other), told(hall_behind(moment)))

    def test_every_moment_of_long_stories(self):
        words = set()
        for seed in SEEDS:
            hall, pictures = grown_with_pictures(seed, MANY)
            self.assertGreater(hall.moment(), 100)
            words |= {deed[0] for deed in hall.story()}
            for moment, picture in enumerate(pictures):
                self.assertEqual(told(hall_at(hall, moment)), picture, (seed, moment))
            self.assertEqual(told(hall), pictures[-1])
        self.assertEqual(words, set(METHODS))

    def test_the_first_and_the_last_moment(self):
        for many in (0, 1, 7, len(DEEDS)):
            hall = hall_behind(many)
            self.assertEqual(told(hall_at(hall, 0)), told(Hall()))
            self.assertEqual(told(hall_at(hall, many)), told(hall))
            self.assertIsNot(hall_at(hall, many), hall)

    def test_below_0_and_behind_the_last_one(self):
        for many in (0, 1, 7, len(DEEDS)):
            hall = hall_behind(many)
            for moment in (-HUGE, -many - 1, -many, -2, -1):
                if moment < 0:
                    self.assert_no_moment(hall, moment)
            for moment in (many + 1, many + 2, 2 * many + 1, HUGE):
                self.assert_no_moment(hall, moment)

    def test_a_refused_deed_makes_no_moment(self):
        hall = hall_behind(4)
        for number in range(3):
            with self.assertRaises(errors.Taken):
                hall.house("anna", 1)
        self.assert_no_moment(hall, 5)
        self.assertEqual(told(hall_at(hall, 4)), told(hall_behind(4)))

    def test_each_goes_on_without_the_other(self):
        ends = told(hall_behind(len(DEEDS)))
        for moment in range(len(DEEDS) + 1):
            hall = hall_behind(len(DEEDS))
            other = hall_at(hall, moment)
            before = told(other)
            hall.pass_days(9)
            hall.put_in("anna", 9)
            hall.draw("anna", "bert", "carl", 9, hall.today(), False)
            hall.fail("dora")
            self.assertEqual(told(other), before)
            before = told(hall)
            for deed, tells in DEEDS[moment:]:
                self.assertEqual(do_deed(other, deed), tells, deed)
                self.assertEqual(told(hall), before)
            self.assertEqual(told(other), ends)

    def test_two_halls_at_one_moment_know_nothing_of_one_another(self):
        hall = hall_behind(18)
        one, other = hall_at(hall, 16), hall_at(hall, 16)
        before = told(other)
        for deed, tells in DEEDS[16:]:
            do_deed(one, deed)
            self.assertEqual(told(other), before)

    def test_a_moment_of_a_told_hall(self):
        hall = hall_behind(len(DEEDS))
        for moment in (0, 3, 17, len(DEEDS)):
            for one in (hall_at(hall, moment), hall_at(hall, moment).twin(), hall_at(hall.twin(), moment)):
                for earlier in range(moment + 1):
                    self.assertEqual(told(hall_at(one, earlier)), told(hall_behind(earlier)))
                self.assert_no_moment(one, moment + 1)
                self.assert_no_moment(one, -1)

    def test_another_way_on_from_a_moment(self):
        hall = hall_behind(len(DEEDS))
        other = hall_at(hall, 10)
        other.pass_days(7)
        other.house("emil", 5)
        self.assertEqual(other.story(), [deed for deed, tells in DEEDS[:10]] + [("days", 7), ("house", "emil", 5)])
        again = hall_at(other, 11)
        self.assertEqual((again.today(), again.names()), (7, ["anna", "bert", "carl", "dora"]))
        self.assertEqual(told(hall_at(other, 10)), told(hall_at(hall, 10)))
        self.assert_no_moment(other, 13)

    def test_a_moment_between_fairs(self):
        hall = hall_of(anna=5, bert=0, carl=0)
        for drawee, payee in (("anna", "bert"), ("bert", "carl"), ("carl", "anna")):
            hall.accept(hall.draw(payee, drawee, payee, 5, 0, True), 1)
        moment = hall.moment()
        self.assertEqual(hall.fair(["bert", "anna"]), [1])
        self.assertEqual(hall.fair(["carl", "bert"]), [2])
        self.assertEqual(hall.fair(["anna", "carl"]), [3])
        self.assertEqual([hall.coins(name) for name in hall.names()], [5, 0, 0])
        states = [["running"] * 3, ["paid", "running", "running"], ["paid", "paid", "running"], ["paid"] * 3]
        purses = [[5, 0, 0], [0, 5, 0], [0, 0, 5], [5, 0, 0]]
        for behind in range(4):
            other = hall_at(hall, moment + behind)
            self.assertEqual([other.state(bill) for bill in (1, 2, 3)], states[behind])
            self.assertEqual([other.coins(name) for name in other.names()], purses[behind])


if __name__ == "__main__":
    unittest.main()
