"""Houses, purses, days, drawing, accepting and the questions of a hall (points 1 to 5 and 16)."""

import inspect
import unittest

from allonge import hall as hall_file
from allonge.errors import (
    Accepted, BadCoins, BadCount, BadDay, BadName, Closed, Failed, Full, NoBill, NoCoins, NoHouse, Standing, Taken,
    Void,
)
from allonge.hall import Hall
from halls import HUGE, MOST, HallCase, five, hall_of, purses_of, signed, told

ARGUMENTS = {
    "house": "name coins", "put_in": "name coins", "take_out": "name coins", "fail": "name", "mend": "name",
    "pass_days": "many", "draw": "drawer drawee payee amount due bound", "accept": "bill copy",
    "sign": "bill copy to bound", "sign_blank": "bill copy to bound", "hand": "bill copy to", "lose": "bill",
    "present": "bill copy", "protest": "bill copy", "ask": "bill copy place", "honour": "bill copy name place",
    "fair": "names", "names": "", "coins": "name", "stands": "name", "can_pay": "name amount", "today": "",
    "many_bills": "", "paper": "bill", "state": "bill", "holder": "bill", "copy_of": "bill", "in_blank": "bill",
    "row": "bill", "story": "", "moment": "", "twin": "",
}
NO_BILLS = (0, -1, 2, 41, HUGE, -HUGE)
NO_HOUSES = ("zora", "", "Anna", "ann", "annab", "anna ", "an\nna", "~")


class InterfaceTest(unittest.TestCase):
    def test_the_class_is_defined_in_its_file(self):
        self.assertEqual(hall_file.Hall.__module__, "allonge.hall")
        inspect.signature(Hall).bind()

    def test_each_method_stands_in_the_class_itself(self):
        for name, arguments in ARGUMENTS.items():
            with self.subTest(name=name):
                self.assertIn(name, vars(Hall))
                self.assertEqual(list(inspect.signature(vars(Hall)[name]).parameters), ["self", *arguments.split()])


class NewHallTest(HallCase):
    def test_is_empty_and_at_day_0(self):
        hall = Hall()
        self.assertEqual(
            (hall.names(), hall.today(), hall.many_bills(), hall.story(), hall.moment()), ([], 0, 0, [], 0))

    def test_two_halls_know_nothing_of_one_another(self):
        first, second = five(), Hall()
        before = told(Hall())
        signed(first, [("dora", True)])
        first.pass_days(1)
        first.fail("emil")
        self.assertEqual(told(second), before)
        second.house("anna", 1)
        self.assertEqual((first.coins("anna"), second.coins("anna")), (100, 1))
        self.assertEqual((first.many_bills(), second.many_bills()), (1, 0))


class HouseTest(HallCase):
    def test_a_house_stands_open_with_its_coins(self):
        hall = Hall()
        self.assert_none(hall, "house", "anna", 5)
        self.assertEqual((hall.names(), hall.coins("anna"), hall.stands("anna")), (["anna"], 5, "open"))

    def test_names_of_1_to_8_small_letters(self):
        for name in ("a", "z", "az", "abcdefgh", "zzzzzzzz"):
            hall = Hall()
            self.assert_none(hall, "house", name, 1)
            self.assertEqual(hall.names(), [name])

    def test_other_names_are_refused(self):
        for name in ("", "abcdefghi", "Anna", "annA", "an na", " anna", "anna ", "anna\n", "anna1", "1", "`", "{", "~"):
            self.assert_refused(BadName, five(), "house", name, 1)

    def test_a_taken_name_is_refused(self):
        for name in ("anna", "emil"):
            self.assert_refused(Taken, five(), "house", name, 1)

    def test_a_failed_house_keeps_its_name(self):
        hall = five()
        hall.fail("anna")
        self.assert_refused(Taken, hall, "house", "anna", 1)

    def test_coins_from_nought_to_the_most(self):
        for coins in (0, 1, MOST - 1, MOST):
            hall = five()
            self.assert_none(hall, "house", "fred", coins)
            self.assertEqual(hall.coins("fred"), coins)
        for coins in (-1, -MOST, MOST + 1, HUGE, -HUGE):
            self.assert_refused(BadCoins, five(), "house", "fred", coins)

    def test_nine_houses_and_one_more(self):
        hall = Hall()
        for name in "ihgfedcba":
            self.assert_none(hall, "house", name, 1)
        self.assertEqual(hall.names(), list("abcdefghi"))
        self.assert_refused(Full, hall, "house", "j", 1)

    def test_failed_houses_count(self):
        hall = hall_of(**{name: 1 for name in "abcdefghi"})
        hall.fail("a")
        self.assert_refused(Full, hall, "house", "j", 1)


class CoinsTest(HallCase):
    def test_put_in(self):
        for coins in (1, 2, MOST - 1, MOST):
            hall = hall_of(anna=5, bert=0)
            self.assert_none(hall, "in", "anna", coins)
            self.assertEqual(purses_of(hall), {"anna": 5 + coins, "bert": 0})

    def test_a_purse_may_hold_more_than_the_most(self):
        hall = hall_of(anna=MOST)
        hall.put_in("anna", MOST)
        hall.put_in("anna", MOST)
        self.assertEqual(hall.coins("anna"), 3 * MOST)
        self.assertIs(hall.can_pay("anna", 3 * MOST), True)

    def test_put_in_refusals(self):
        for coins in (0, -1, -5, MOST + 1, HUGE, -HUGE):
            self.assert_refused(BadCoins, five(), "in", "anna", coins)
        for name in NO_HOUSES:
            self.assert_refused(NoHouse, five(), "in", name, 1)

    def test_take_out(self):
        for coins in (1, 4, 5):
            hall = hall_of(anna=5, bert=9)
            self.assert_none(hall, "out", "anna", coins)
            self.assertEqual(purses_of(hall), {"anna": 5 - coins, "bert": 9})
        hall = hall_of(anna=MOST)
        self.assert_none(hall, "out", "anna", MOST)
        self.assertEqual(hall.coins("anna"), 0)

    def test_take_out_refusals(self):
        for coins in (0, -1, -5, MOST + 1, HUGE, -HUGE):
            self.assert_refused(BadCoins, five(), "out", "anna", coins)
        for name in NO_HOUSES:
            self.assert_refused(NoHouse, five(), "out", name, 1)
        for coins in (6, MOST):
            self.assert_refused(NoCoins, hall_of(anna=5, bert=MOST), "out", "anna", coins)
        self.assert_refused(NoCoins, hall_of(anna=0), "out", "anna", 1)

    def test_the_most_is_asked_of_a_full_purse_too(self):
        hall = hall_of(anna=MOST)
        hall.put_in("anna", 5)
        self.assert_refused(BadCoins, hall, "out", "anna", MOST + 1)

    def test_a_failed_house_still_has_a_purse(self):
        hall = five()
        hall.fail("anna")
        hall.put_in("anna", 7)
        hall.take_out("anna", 100)
        self.assertEqual((hall.coins("anna"), hall.stands("anna")), (7, "failed"))


class FailTest(HallCase):
    def test_fail_and_mend(self):
        hall = five()
        self.assert_none(hall, "fail", "bert")
        self.assertEqual([hall.stands(name) for name in hall.names()], ["open", "failed", "open", "open", "open"])
        self.assert_none(hall, "fail", "anna")
        self.assert_none(hall, "mend", "bert")
        self.assertEqual([hall.stands(name) for name in hall.names()], ["failed", "open", "open", "open", "open"])
        self.assert_none(hall, "fail", "bert")
        self.assertEqual(hall.stands("bert"), "failed")

    def test_refusals(self):
        for name in NO_HOUSES:
            self.assert_refused(NoHouse, five(), "fail", name)
            self.assert_refused(NoHouse, five(), "mend", name)
        hall = five()
        self.assert_refused(Standing, hall, "mend", "anna")
        hall.fail("anna")
        self.assert_refused(Failed, hall, "fail", "anna")
        self.assert_refused(Standing, hall, "mend", "bert")

    def test_failing_moves_no_coins(self):
        hall = five()
        hall.fail("anna")
        self.assertEqual(purses_of(hall), purses_of(five()))


class DaysTest(HallCase):
    def test_days_pass(self):
        hall = Hall()
        day = 0
        for many in (1, 2, 999, 1000, 1000):
            self.assert_none(hall, "days", many)
            day += many
            self.assertEqual(hall.today(), day)

    def test_refusals(self):
        for many in (0, -1, -1000, 1001, HUGE, -HUGE):
            self.assert_refused(BadCount, five(), "days", many)


class DrawTest(HallCase):
    def test_a_new_bill(self):
        hall = five()
        for bound in (True, False):
            self.assertEqual(hall.draw("bert", "anna", "carl", 10, 3, bound), hall.many_bills())
            bill = hall.many_bills()
            self.assertEqual(hall.story()[-1], ("draw", "bert", "anna", "carl", 10, 3, bound))
            self.assertEqual(hall.paper(bill), ("bert", "anna", "carl", 10, 3))
            self.assert_bill(hall, bill, "running", "carl", [("anna", False), ("bert", bound)])
            self.assertEqual(hall.copy_of(bill), 1)
        self.assertEqual(purses_of(hall), purses_of(five()))

    def test_bills_are_numbered_from_1(self):
        hall = five()
        self.assertEqual([hall.draw("anna", "bert", "carl", 1, 0, True) for number in range(4)], [1, 2, 3, 4])

    def test_any_of_the_three_may_be_one_house(self):
        for drawer, drawee, payee in (("anna", "anna", "anna"), ("anna", "anna", "bert"), ("anna", "bert", "anna"),
                                      ("anna", "bert", "bert")):
            hall = five()
            bill = hall.draw(drawer, drawee, payee, 1, 0, True)
            self.assertEqual(hall.paper(bill), (drawer, drawee, payee, 1, 0))
            self.assert_bill(hall, bill, "running", payee, [(drawee, False), (drawer, True)])

    def test_each_unknown_house_is_refused(self):
        for name in NO_HOUSES:
            self.assert_refused(NoHouse, five(), "draw", name, "anna", "bert", 1, 0, True)
            self.assert_refused(NoHouse, five(), "draw", "anna", name, "bert", 1, 0, True)
            self.assert_refused(NoHouse, five(), "draw", "anna", "bert", name, 1, 0, True)

    def test_only_the_drawer_must_stand_open(self):
        hall = five()
        hall.fail("anna")
        self.assert_refused(Failed, hall, "draw", "anna", "bert", "carl", 1, 0, True)
        self.assert_refused(Failed, hall, "draw", "anna", "bert", "carl", 1, 0, False)
        self.assertEqual(hall.draw("bert", "anna", "anna", 1, 0, True), 1)

    def test_amounts(self):
        for amount in (1, 2, MOST - 1, MOST):
            hall = five()
            self.assertEqual(hall.paper(hall.draw("anna", "bert", "carl", amount, 0, True))[3], amount)
        for amount in (0, -1, MOST + 1, HUGE, -HUGE):
            self.assert_refused(BadCoins, five(), "draw", "anna", "bert", "carl", amount, 0, True)

    def test_due_days(self):
        for today in (0, 7):
            for later in (0, 1, 999, 1000):
                hall = five()
                if today:
                    hall.pass_days(today)
                bill = hall.draw("anna", "bert", "carl", 1, today + later, True)
                self.assertEqual(hall.paper(bill)[4], today + later)
            for due in (today - 1, today + 1001, HUGE, -HUGE):
                self.assert_refused(BadDay, hall, "draw", "anna", "bert", "carl", 1, due, True)

    def test_forty_bills_and_one_more(self):
        hall = five()
        for number in range(1, 41):
            self.assertEqual(hall.draw("anna", "bert", "carl", number, 0, True), number)
        self.assertEqual(hall.many_bills(), 40)
        self.assert_refused(Full, hall, "draw", "anna", "bert", "carl", 1, 0, True)
        self.assertEqual([hall.paper(bill)[3] for bill in range(1, 41)], list(range(1, 41)))

    def test_paid_bills_count(self):
        hall = five()
        for number in range(40):
            hall.present(signed(hall, [], amount=1), 1)
        self.assert_refused(Full, hall, "draw", "anna", "bert", "carl", 1, 0, True)


class AcceptTest(HallCase):
    def test_the_drawee_is_bound(self):
        hall = five()
        hall.draw("bert", "anna", "carl", 10, 3, False)
        hall.draw("bert", "anna", "carl", 10, 3, True)
        self.assert_none(hall, "accept", 1, 1)
        self.assert_bill(hall, 1, "running", "carl", [("anna", True), ("bert", False)])
        self.assert_bill(hall, 2, "running", "carl", [("anna", False), ("bert", True)])
        self.assertEqual(purses_of(hall), purses_of(five()))

    def test_behind_signatures_and_behind_the_due_day(self):
        hall = five()
        signed(hall, [("dora", True)], accepted=False)
        hall.sign_blank(1, 1, "emil", False)
        hall.pass_days(100)
        self.assert_none(hall, "accept", 1, 1)
        row = [("anna", True), ("bert", True), ("carl", True), ("dora", False)]
        self.assert_bill(hall, 1, "running", "emil", row, blank=True)

    def test_a_drawee_at_other_places_is_bound_at_place_0_only(self):
        hall = five()
        signed(hall, [("bert", False)], accepted=False, drawer="anna", payee="anna", drawer_bound=False)
        hall.accept(1, 1)
        self.assertEqual(hall.row(1), [("anna", True), ("anna", False), ("anna", False)])

    def test_refusals(self):
        hall = five()
        signed(hall, [], accepted=False)
        for bill in NO_BILLS:
            self.assert_refused(NoBill, hall, "accept", bill, 1)
            self.assert_refused(NoBill, hall, "accept", bill, 2)
        for copy in (0, 2, 3, -1, HUGE):
            self.assert_refused(Void, hall, "accept", 1, copy)
        hall.fail("anna")
        self.assert_refused(Failed, hall, "accept", 1, 1)
        hall.mend("anna")
        hall.accept(1, 1)
        self.assert_refused(Accepted, hall, "accept", 1, 1)

    def test_only_the_drawee_must_stand_open(self):
        hall = five()
        signed(hall, [], accepted=False)
        hall.fail("bert")
        hall.fail("carl")
        self.assert_none(hall, "accept", 1, 1)

    def test_a_bill_that_is_not_running_is_refused(self):
        hall = five()
        signed(hall, [], accepted=False)
        hall.present(1, 1)
        self.assert_refused(Closed, hall, "accept", 1, 1)
        hall.protest(1, 1)
        self.assert_refused(Closed, hall, "accept", 1, 1)
        hall.present(signed(hall, []), 1)
        self.assert_refused(Closed, hall, "accept", 2, 1)


class QuestionsTest(HallCase):
    def test_names_in_order(self):
        self.assertEqual(hall_of(dora=1, anna=2, b=0, ann=3, carl=1).names(), ["ann", "anna", "b", "carl", "dora"])

    def test_can_pay(self):
        hall = hall_of(anna=5, bert=0)
        for amount, answers in ((-HUGE, (True, True)), (-1, (True, True)), (0, (True, True)), (1, (True, False)),
                                (5, (True, False)), (6, (False, False)), (HUGE, (False, False))):
            self.assertIs(hall.can_pay("anna", amount), answers[0], amount)
            self.assertIs(hall.can_pay("bert", amount), answers[1], amount)

    def test_a_failed_house_can_pay_nothing(self):
        hall = hall_of(anna=5)
        hall.fail("anna")
        for amount in (-HUGE, -1, 0, 1, 5, 6):
            self.assertIs(hall.can_pay("anna", amount), False)
        hall.mend("anna")
        self.assertIs(hall.can_pay("anna", 5), True)

    def test_unknown_houses(self):
        for name in NO_HOUSES:
            for hall in (five(), Hall()):
                self.assert_question_refused(NoHouse, hall.coins, name)
                self.assert_question_refused(NoHouse, hall.stands, name)
                for amount in (-1, 0, 1):
                    self.assert_question_refused(NoHouse, hall.can_pay, name, amount)

    def test_unknown_bills(self):
        hall = five()
        signed(hall, [])
        for bill in NO_BILLS:
            for question in (hall.paper, hall.state, hall.holder, hall.copy_of, hall.in_blank, hall.row):
                self.assert_question_refused(NoBill, question, bill)

    def test_each_bill_is_told_for_itself(self):
        hall = five()
        signed(hall, [("dora", True)], amount=1)
        signed(hall, [], amount=2, accepted=False, drawer="carl", drawee="dora", payee="emil", due=9)
        hall.lose(2)
        hall.sign_blank(2, 2, "anna", False)
        self.assertEqual(hall.paper(1), ("bert", "anna", "carl", 1, 0))
        self.assertEqual(hall.paper(2), ("carl", "dora", "emil", 2, 9))
        self.assertEqual((hall.copy_of(1), hall.copy_of(2)), (1, 2))
        self.assert_bill(hall, 1, "running", "dora", [("anna", True), ("bert", True), ("carl", True)])
        self.assert_bill(hall, 2, "running", "anna", [("dora", False), ("carl", True), ("emil", False)], blank=True)

    def test_told_lists_are_new_ones(self):
        hall = five()
        signed(hall, [("dora", True)])
        before = told(hall)
        for question in (hall.names, hall.story, lambda: hall.row(1)):
            answer, kept = question(), list(question())
            self.assertIsInstance(answer, list)
            answer.append(answer[0])
            answer[0] = None
            del answer[1]
            self.assertEqual(question(), kept)
        self.assertEqual(told(hall), before)

    def test_a_told_row_does_not_follow_later_deeds(self):
        hall = five()
        signed(hall, [], accepted=False)
        row = hall.row(1)
        hall.accept(1, 1)
        hall.sign(1, 1, "dora", True)
        self.assertEqual(row, [("anna", False), ("bert", True)])

    def test_rows_and_papers_are_told_in_tuples(self):
        hall = five()
        signed(hall, [("dora", True)])
        self.assertIs(type(hall.paper(1)), tuple)
        self.assertEqual([type(pair) for pair in hall.row(1)], [tuple] * 3)
        self.assertTrue(all(type(bound) is bool for house, bound in hall.row(1)))


if __name__ == "__main__":
    unittest.main()
