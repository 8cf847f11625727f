"""Signing, handing on, losing, presenting and protesting (points 5 to 8 and 16)."""

import unittest

from allonge.errors import (
    Closed, Failed, Full, NoBill, NoHouse, NotBlank, NotPresented, NotYet, Protested, Same, TooLate, Void,
)
from halls import HUGE, METHODS, MOST, HallCase, five, hall_of, protested, purses_of, signed, unpaid

NO_BILLS = (0, -1, 2, 41, HUGE, -HUGE)
# A deed with a paper, but for number and copy.
PAPER_DEEDS = (
    ("accept",), ("sign", "dora", True), ("blank", "dora", False), ("hand", "dora"), ("present",), ("protest",),
    ("ask", 0), ("honour", "emil", 0),
)


def in_states(hall):
    """Four bills of which one is unpaid, one protested, one paid and one running; all accepted, the backs in blank."""
    for number in range(4):
        bill = signed(hall, [])
        hall.sign_blank(bill, 1, "dora", True)
    unpaid(hall, 1)
    protested(hall, 2)
    hall.present(3, 1)
    return {"unpaid": 1, "protested": 2, "paid": 3, "running": 4}


class PaperTest(HallCase):
    def test_numbers_of_no_bill_are_asked_first_and_then_the_copy(self):
        for copies in (1, 2, 3):
            hall = five()
            signed(hall, [])
            for copy in range(1, copies):
                hall.lose(1)
            for word, *parts in PAPER_DEEDS:
                for bill in NO_BILLS:
                    for copy in (1, 2, 9):
                        self.assert_refused(NoBill, hall, word, bill, copy, *parts)
                for copy in (0, 1, 2, 3, 4, -1, HUGE):
                    if copy != copies:
                        self.assert_refused(Void, hall, word, 1, copy, *parts)

    def test_each_deed_can_be_done_with_the_present_copy(self):
        for copies in (1, 2, 3):
            hall = five()
            states = in_states(hall)
            hall.draw("bert", "anna", "carl", 1, 0, True)
            for bill in (1, 2, 4, 5):
                for copy in range(1, copies):
                    hall.lose(bill)
            for word, bill in (("present", 4), ("protest", 1), ("ask", 2), ("honour", 1), ("accept", 5), ("sign", 5),
                               ("blank", 5), ("hand", 5)):
                parts = {"sign": ("dora", True), "blank": ("emil", False), "hand": ("carl",), "ask": (2,),
                         "honour": ("emil", 0)}.get(word, ())
                getattr(hall, METHODS[word])(bill, copies, *parts)
                self.assertEqual(hall.story()[-1], (word, bill, copies, *parts))
            self.assertEqual(states["running"], 4)

    def test_a_copy_is_one_bill_s_own(self):
        hall = five()
        signed(hall, [])
        signed(hall, [])
        hall.lose(1)
        self.assert_refused(Void, hall, "sign", 1, 1, "dora", True)
        self.assert_refused(Void, hall, "sign", 2, 2, "dora", True)
        hall.sign(1, 2, "dora", True)
        hall.sign(2, 1, "dora", True)


class SignTest(HallCase):
    def test_the_holder_is_the_last_of_the_row(self):
        for word, blank in (("sign", False), ("blank", True)):
            for bound in (True, False):
                hall = five()
                signed(hall, [])
                self.assert_none(hall, word, 1, 1, "dora", bound)
                row = [("anna", True), ("bert", True), ("carl", bound)]
                self.assert_bill(hall, 1, "running", "dora", row, blank=blank)
                self.assertEqual(purses_of(hall), purses_of(five()))

    def test_in_order_and_each_as_it_signed(self):
        hall = five()
        signers = [("dora", False), ("emil", True), ("anna", False), ("bert", True), ("carl", True), ("emil", False)]
        signed(hall, signers)
        row = [("anna", True), ("bert", True), ("carl", False), ("dora", True), ("emil", False), ("anna", True),
               ("bert", True), ("carl", False)]
        self.assert_bill(hall, 1, "running", "emil", row)

    def test_the_back_is_in_blank_just_where_it_was_signed_so(self):
        hall = five()
        signed(hall, [])
        for word, to, blank in (("blank", "dora", True), ("blank", "emil", True), ("sign", "dora", False),
                                ("sign", "emil", False), ("blank", "dora", True), ("sign", "carl", False)):
            self.assert_none(hall, word, 1, 1, to, True)
            self.assertIs(hall.in_blank(1), blank)

    def test_six_signings_and_one_more(self):
        for last in ("sign", "blank"):
            hall = five()
            signed(hall, [("dora", True), ("emil", False)] * 2 + [("dora", True)])
            self.assert_none(hall, last, 1, 1, "emil", True)
            self.assertEqual(len(hall.row(1)), 8)
            self.assert_refused(Full, hall, "sign", 1, 1, "dora", True)
            self.assert_refused(Full, hall, "blank", 1, 1, "dora", False)

    def test_a_house_may_stand_at_several_places(self):
        hall = five()
        signed(hall, [("anna", True), ("carl", False), ("anna", True)], drawer="anna", payee="carl")
        row = [("anna", True), ("anna", True), ("carl", True), ("anna", False), ("carl", True)]
        self.assert_bill(hall, 1, "running", "anna", row)

    def test_behind_the_due_day_and_not_accepted(self):
        hall = five()
        signed(hall, [], accepted=False)
        hall.pass_days(1000)
        self.assert_none(hall, "sign", 1, 1, "dora", True)
        self.assert_none(hall, "blank", 1, 1, "emil", True)

    def test_refusals(self):
        for word in ("sign", "blank"):
            hall = five()
            states = in_states(hall)
            for to in ("zora", "", "Carl"):
                self.assert_refused(NoHouse, hall, word, 4, 1, to, True)
            self.assert_refused(Same, hall, word, 4, 1, "dora", True)
            for state in ("unpaid", "protested", "paid"):
                self.assert_refused(Closed, hall, word, states[state], 1, "carl", True)
            hall.fail("dora")
            self.assert_refused(Failed, hall, word, 4, 1, "carl", True)

    def test_only_the_holder_must_stand_open(self):
        for word in ("sign", "blank"):
            hall = five()
            signed(hall, [])
            for name in ("anna", "bert", "dora"):
                hall.fail(name)
            self.assert_none(hall, word, 1, 1, "dora", True)
            self.assert_refused(Failed, hall, word, 1, 1, "emil", True)

    def test_the_holder_is_asked_not_the_payee(self):
        hall = five()
        signed(hall, [("dora", True)])
        hall.fail("carl")
        self.assert_none(hall, "sign", 1, 1, "carl", True)
        self.assert_refused(Failed, hall, "sign", 1, 1, "dora", True)


class HandTest(HallCase):
    def test_the_row_and_the_back_stay(self):
        hall = five()
        signed(hall, [])
        hall.sign_blank(1, 1, "dora", True)
        row = hall.row(1)
        for to in ("emil", "anna", "bert", "carl", "dora"):
            self.assert_none(hall, "hand", 1, 1, to)
            self.assert_bill(hall, 1, "running", to, row, blank=True)
        self.assertEqual(purses_of(hall), purses_of(five()))

    def test_who_got_it_so_may_sign_and_stands_in_the_row_then(self):
        hall = five()
        signed(hall, [])
        hall.sign_blank(1, 1, "dora", True)
        hall.hand(1, 1, "emil")
        hall.sign(1, 1, "bert", False)
        row = [("anna", True), ("bert", True), ("carl", True), ("emil", False)]
        self.assert_bill(hall, 1, "running", "bert", row)
        self.assert_refused(NotBlank, hall, "hand", 1, 1, "dora")

    def test_handing_needs_no_house_that_stands_open_and_no_room(self):
        hall = five()
        signed(hall, [("dora", True), ("emil", True)] * 2 + [("dora", True)])
        hall.sign_blank(1, 1, "emil", True)
        for name in hall.names():
            hall.fail(name)
        self.assert_none(hall, "hand", 1, 1, "bert")
        self.assertEqual(hall.holder(1), "bert")

    def test_refusals(self):
        hall = five()
        states = in_states(hall)
        for to in ("zora", "", "Carl"):
            self.assert_refused(NoHouse, hall, "hand", 4, 1, to)
        for state in ("unpaid", "protested", "paid"):
            self.assert_refused(Closed, hall, "hand", states[state], 1, "carl")
        self.assert_refused(Same, hall, "hand", 4, 1, "dora")
        self.assert_refused(NotBlank, hall, "hand", signed(hall, []), 1, "dora")
        self.assert_refused(NotBlank, hall, "hand", 5, 1, "carl")


class LoseTest(HallCase):
    def test_the_next_copy_is_told(self):
        for state in ("running", "unpaid", "protested"):
            hall = five()
            bill = in_states(hall)[state]
            before = [hall.state(bill), hall.holder(bill), hall.row(bill), hall.in_blank(bill), hall.paper(bill)]
            for copy in (2, 3):
                self.assertEqual(hall.lose(bill), copy)
                self.assertEqual(hall.story()[-1], ("lose", bill))
                self.assertEqual(hall.copy_of(bill), copy)
                after = [hall.state(bill), hall.holder(bill), hall.row(bill), hall.in_blank(bill), hall.paper(bill)]
                self.assertEqual(after, before)
            self.assert_refused(Full, hall, "lose", bill)

    def test_other_bills_keep_their_copy(self):
        hall = five()
        in_states(hall)
        hall.lose(2)
        self.assertEqual([hall.copy_of(bill) for bill in range(1, 5)], [1, 2, 1, 1])

    def test_refusals(self):
        hall = five()
        states = in_states(hall)
        for bill in (0, -1, 5, HUGE, -HUGE):
            self.assert_refused(NoBill, hall, "lose", bill)
        self.assert_refused(Closed, hall, "lose", states["paid"])
        hall.lose(4)
        hall.lose(4)
        hall.present(4, 3)
        self.assert_refused(Closed, hall, "lose", 4)

    def test_nobody_must_stand_open(self):
        hall = five()
        signed(hall, [])
        for name in hall.names():
            hall.fail(name)
        self.assertEqual(hall.lose(1), 2)


class PresentTest(HallCase):
    def assert_presented(self, hall, bill, paid, purses):
        holder, row, blank = hall.holder(bill), hall.row(bill), hall.in_blank(bill)
        self.assertIs(hall.present(bill, 1), paid)
        self.assertEqual(hall.story()[-1], ("present", bill, 1))
        self.assert_bill(hall, bill, "paid" if paid else "unpaid", holder, row, blank)
        self.assertEqual(purses_of(hall), purses)

    def test_paid_to_the_holder(self):
        hall = hall_of(anna=10, bert=1, carl=2, dora=3)
        signed(hall, [("dora", True)])
        self.assert_presented(hall, 1, True, {"anna": 0, "bert": 1, "carl": 2, "dora": 13})

    def test_the_back_stays_in_blank(self):
        for coins, paid in ((10, True), (9, False)):
            hall = hall_of(anna=coins, bert=0, carl=0, dora=0)
            signed(hall, [])
            hall.sign_blank(1, 1, "dora", True)
            gets = 10 if paid else 0
            self.assert_presented(hall, 1, paid, {"anna": coins - gets, "bert": 0, "carl": 0, "dora": gets})

    def test_one_coin_too_few(self):
        hall = hall_of(anna=9, bert=100, carl=100)
        signed(hall, [])
        self.assert_presented(hall, 1, False, {"anna": 9, "bert": 100, "carl": 100})

    def test_the_most(self):
        hall = hall_of(anna=MOST, bert=0, carl=MOST)
        signed(hall, [], amount=MOST)
        self.assert_presented(hall, 1, True, {"anna": 0, "bert": 0, "carl": 2 * MOST})

    def test_not_accepted(self):
        hall = five()
        signed(hall, [], accepted=False)
        self.assert_presented(hall, 1, False, purses_of(five()))

    def test_a_drawee_who_is_failed(self):
        hall = five()
        signed(hall, [])
        hall.fail("anna")
        self.assert_presented(hall, 1, False, purses_of(five()))

    def test_only_the_drawee_is_asked(self):
        hall = five()
        signed(hall, [("dora", True)])
        for name in ("bert", "carl", "dora"):
            hall.fail(name)
        self.assert_presented(hall, 1, True, {"anna": 90, "bert": 100, "carl": 100, "dora": 110, "emil": 100})

    def test_a_drawee_who_holds_the_bill_needs_no_coin(self):
        for coins in (0, 9, 10):
            for failed in (False, True):
                hall = hall_of(anna=coins, bert=1, carl=2)
                signed(hall, [("anna", True)])
                if failed:
                    hall.fail("anna")
                self.assert_presented(hall, 1, True, {"anna": coins, "bert": 1, "carl": 2})

    def test_a_drawee_who_holds_the_bill_but_did_not_accept(self):
        hall = five()
        signed(hall, [("anna", True)], accepted=False)
        self.assert_presented(hall, 1, False, purses_of(five()))

    def test_drawer_drawee_and_payee_the_same(self):
        for accepted in (True, False):
            hall = hall_of(anna=0)
            signed(hall, [], drawer="anna", payee="anna", accepted=accepted)
            self.assert_presented(hall, 1, accepted, {"anna": 0})

    def test_a_drawee_who_signed_but_did_not_accept(self):
        hall = five()
        signed(hall, [("anna", True), ("dora", True)], accepted=False, drawer="anna")
        self.assert_presented(hall, 1, False, purses_of(five()))

    def test_on_the_due_day_later_and_earlier(self):
        for due in (0, 1, 5):
            hall = five()
            signed(hall, [], due=due)
            for day in range(due):
                self.assert_refused(NotYet, hall, "present", 1, 1)
                hall.pass_days(1)
            self.assertIs(hall.twin().present(1, 1), True)
            hall.pass_days(1)
            self.assertIs(hall.twin().present(1, 1), True)
            hall.pass_days(1000)
            self.assertIs(hall.present(1, 1), True)

    def test_each_bill_only_once(self):
        hall = five()
        states = in_states(hall)
        for state in ("unpaid", "protested", "paid"):
            self.assert_refused(Closed, hall, "present", states[state], 1)

    def test_one_bill_after_the_other_empties_the_purse(self):
        hall = hall_of(anna=25, bert=0, carl=0)
        for number in range(3):
            signed(hall, [])
        self.assertEqual([hall.present(bill, 1) for bill in (3, 1, 2)], [True, True, False])
        self.assertEqual([hall.state(bill) for bill in (1, 2, 3)], ["paid", "unpaid", "paid"])
        self.assertEqual(purses_of(hall), {"anna": 5, "bert": 0, "carl": 20})


class ProtestTest(HallCase):
    def test_an_unpaid_bill_is_protested(self):
        hall = five()
        bill = in_states(hall)["unpaid"]
        row = hall.row(bill)
        purses = purses_of(hall)
        self.assert_none(hall, "protest", bill, 1)
        self.assert_bill(hall, bill, "protested", "dora", row, blank=True)
        self.assertEqual(purses_of(hall), purses)

    def test_up_to_the_third_day_behind_the_due_day(self):
        for due in (0, 2):
            for late in range(7):
                hall = five()
                signed(hall, [], due=due)
                if due:
                    hall.pass_days(due)
                unpaid(hall, 1)
                for day in range(late):
                    hall.pass_days(1)
                if late <= 3:
                    self.assert_none(hall, "protest", 1, 1)
                else:
                    self.assert_refused(TooLate, hall, "protest", 1, 1)

    def test_the_due_day_counts_not_the_day_of_presenting(self):
        hall = five()
        signed(hall, [])
        signed(hall, [])
        hall.pass_days(3)
        unpaid(hall, 1)
        self.assert_none(hall, "protest", 1, 1)
        hall.pass_days(1)
        unpaid(hall, 2)
        self.assert_refused(TooLate, hall, "protest", 2, 1)

    def test_refusals(self):
        hall = five()
        states = in_states(hall)
        self.assert_refused(Closed, hall, "protest", states["paid"], 1)
        self.assert_refused(NotPresented, hall, "protest", states["running"], 1)
        self.assert_refused(Protested, hall, "protest", states["protested"], 1)

    def test_nobody_must_stand_open(self):
        hall = five()
        signed(hall, [])
        for name in hall.names():
            hall.fail(name)
        hall.present(1, 1)
        self.assert_none(hall, "protest", 1, 1)


class PaidTest(HallCase):
    def test_a_paid_bill_stays_as_it_is(self):
        hall = five()
        bill = in_states(hall)["paid"]
        for word, *parts in PAPER_DEEDS:
            self.assert_refused(Closed, hall, word, bill, 1, *parts)
        self.assert_refused(Closed, hall, "lose", bill)
        row = hall.row(bill)
        hall.fair(hall.names())
        self.assert_bill(hall, bill, "paid", "dora", row, blank=True)


if __name__ == "__main__":
    unittest.main()
