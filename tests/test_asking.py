"""Asking back and honouring (points 9, 10, 12 and 16)."""

import unittest

from allonge.errors import CantPay, Closed, IsBound, NoHouse, NotBound, NotPresented, NotProtested, Same
from allonge.recourse import open_places
from halls import HUGE, MOST, HallCase, chain, five, hall_of, protested, purses_of, signed, unpaid

ROW = [("anna", True), ("bert", True), ("carl", True), ("dora", True), ("emil", True)]


def blank_chain():
    """As chain, but signed on in blank at last."""
    hall = five()
    hall.house("fred", 100)
    hall.house("gret", 100)
    signed(hall, [("dora", True), ("emil", True)])
    hall.sign_blank(1, 1, "fred", True)
    protested(hall, 1)
    return hall


class AskingCase(HallCase):
    def assert_asked(self, hall, place, payer, state, row, amount=10, blank=False):
        """The house at the place pays the holder and holds the bill."""
        purses, holder = purses_of(hall), hall.holder(1)
        purses[payer] -= amount
        purses[holder] += amount
        self.assertEqual(hall.ask(1, hall.copy_of(1), place), payer)
        self.assertEqual(hall.story()[-1], ("ask", 1, hall.copy_of(1), place))
        self.assertEqual(purses_of(hall), purses)
        self.assert_bill(hall, 1, state, payer, row, blank)


class AskTest(AskingCase):
    def test_at_place_0_the_bill_is_paid_and_row_and_back_stay(self):
        hall, bill = chain()
        self.assert_asked(hall, 0, "anna", "paid", ROW)
        self.assert_asked(blank_chain(), 0, "anna", "paid", ROW, blank=True)

    def test_at_place_1_the_drawer_stays(self):
        self.assert_asked(chain()[0], 1, "bert", "protested", ROW[:2])
        self.assert_asked(blank_chain(), 1, "bert", "protested", ROW[:2])

    def test_from_place_2_on_the_signature_itself_is_struck(self):
        for place in (2, 3, 4):
            self.assert_asked(chain()[0], place, ROW[place][0], "protested", ROW[:place])
            self.assert_asked(blank_chain(), place, ROW[place][0], "protested", ROW[:place])

    def test_up_to_the_drawee_one_by_one(self):
        hall, bill = chain()
        for place in (4, 3, 2, 1):
            self.assert_asked(hall, place, ROW[place][0], "protested", ROW[:max(place, 2)])
        self.assert_asked(hall, 0, "anna", "paid", ROW[:2])
        purses = dict.fromkeys(hall.names(), 100)
        purses["anna"] -= 10
        purses["fred"] += 10
        self.assertEqual(purses_of(hall), purses)

    def test_an_unpaid_bill_at_place_0_only(self):
        hall = five()
        signed(hall, [("dora", True)])
        unpaid(hall, 1)
        for place in (1, 2):
            self.assert_refused(NotBound, hall, "ask", 1, 1, place)
        self.assert_asked(hall, 0, "anna", "paid", ROW[:3])

    def test_free_places_are_no_open_places(self):
        hall = five()
        signed(hall, [("dora", False), ("emil", True)], accepted=False, drawer_bound=False)
        protested(hall, 1)
        for place in (0, 1, 2, 4):
            self.assert_refused(NotBound, hall, "ask", 1, 1, place)
        self.assert_asked(hall, 3, "dora", "protested", [("anna", False), ("bert", False), ("carl", False)])

    def test_only_ahead_of_the_holder_s_reach(self):
        hall = five()
        signed(hall, [("dora", True), ("emil", True), ("carl", True)])
        protested(hall, 1)
        for place in (2, 3, 4):
            self.assert_refused(NotBound, hall, "ask", 1, 1, place)
        self.assert_asked(hall.twin(), 0, "anna", "paid", ROW)
        self.assert_asked(hall, 1, "bert", "protested", ROW[:2])

    def test_a_holder_s_own_free_places_do_not_stop_it(self):
        hall = five()
        signed(hall, [("dora", False), ("emil", True), ("carl", True)])
        protested(hall, 1)
        self.assertEqual(open_places(hall, 1), [0, 1, 3, 4])
        self.assert_asked(hall, 4, "emil", "protested", [*ROW[:2], ("carl", False), ROW[3]])

    def test_a_drawee_who_accepted_and_holds_the_bill_can_ask_nobody(self):
        hall = five()
        signed(hall, [("dora", True), ("anna", True)])
        hall.sign(1, 1, "emil", True)
        protested(hall, 1)
        self.assert_asked(hall, 4, "anna", "protested", ROW[:4])
        for place in (0, 1, 2, 3):
            self.assert_refused(NotBound, hall, "ask", 1, 1, place)

    def test_a_drawee_who_holds_the_bill_but_did_not_accept(self):
        hall = five()
        signed(hall, [("dora", True), ("anna", True)], accepted=False)
        protested(hall, 1)
        self.assertEqual(open_places(hall, 1), [1, 2, 3])
        self.assert_asked(hall, 3, "dora", "protested", [("anna", False), *ROW[1:3]])

    def test_a_house_at_several_places_is_asked_at_either(self):
        for place, row in ((2, ROW[:2]), (4, [*ROW[:4]])):
            hall = five()
            signed(hall, [("dora", True), ("carl", True), ("emil", True)])
            protested(hall, 1)
            self.assert_asked(hall, place, "carl", "protested", row)
            self.assertEqual(open_places(hall, 1), [0, 1])

    def test_a_place_that_was_struck_is_gone(self):
        hall, bill = chain()
        hall.ask(1, 1, 3)
        for place in (3, 4):
            self.assert_refused(NotBound, hall, "ask", 1, 1, place)
        hall.ask(1, 1, 1)
        for place in (1, 2, 3, 4):
            self.assert_refused(NotBound, hall, "ask", 1, 1, place)

    def test_numbers_of_no_place(self):
        hall, bill = chain()
        for place in (-1, -5, 5, 8, HUGE, -HUGE):
            self.assert_refused(NotBound, hall, "ask", 1, 1, place)

    def test_who_can_t_pay(self):
        for coins in (9, 0):
            hall = hall_of(anna=coins, bert=coins, carl=coins, dora=coins, emil=coins, fred=100)
            signed(hall, [("dora", True), ("emil", True), ("fred", True)])
            protested(hall, 1)
            for place in range(5):
                self.assert_refused(CantPay, hall, "ask", 1, 1, place)
        hall, bill = chain()
        for place, (house, bound) in enumerate(ROW):
            hall.fail(house)
            self.assert_refused(CantPay, hall, "ask", 1, 1, place)
            hall.mend(house)

    def test_with_just_the_coins(self):
        for place in range(5):
            hall, bill = chain(amount=MOST, coins=MOST)
            self.assert_asked(hall, place, ROW[place][0], "protested" if place else "paid",
                              ROW[:max(place, 2)] if place else ROW, amount=MOST)
            self.assertEqual(hall.coins(ROW[place][0]), 0)

    def test_a_holder_who_is_failed_may_ask(self):
        hall, bill = chain()
        hall.fail("fred")
        self.assert_asked(hall, 2, "carl", "protested", ROW[:2])

    def test_long_behind_the_due_day_and_by_a_later_copy(self):
        hall, bill = chain()
        hall.lose(1)
        hall.pass_days(1000)
        self.assert_asked(hall, 3, "dora", "protested", ROW[:3])

    def test_states(self):
        hall = five()
        signed(hall, [("dora", True)])
        for place in (0, 1, 9):
            self.assert_refused(NotPresented, hall, "ask", 1, 1, place)
        hall.present(1, 1)
        for place in (0, 1, 9):
            self.assert_refused(Closed, hall, "ask", 1, 1, place)

    def test_paid_at_place_0_it_is_closed(self):
        hall, bill = chain()
        hall.ask(1, 1, 0)
        self.assert_refused(Closed, hall, "ask", 1, 1, 1)


class HonourTest(AskingCase):
    def assert_honoured(self, hall, name, place, row, amount=10):
        """The house pays the holder and holds the bill, the back not in blank."""
        purses, holder = purses_of(hall), hall.holder(1)
        purses[name] -= amount
        purses[holder] += amount
        self.assert_none(hall, "honour", 1, hall.copy_of(1), name, place)
        self.assertEqual(purses_of(hall), purses)
        self.assert_bill(hall, 1, "protested", name, row)

    def test_for_place_0_the_drawer_stays_but_is_free(self):
        for hall in (chain()[0], blank_chain()):
            self.assert_honoured(hall, "gret", 0, [("anna", True), ("bert", False)])
            self.assertEqual(open_places(hall, 1), [0])
            self.assert_refused(NotBound, hall, "ask", 1, 1, 1)

    def test_for_place_1_the_drawer_stays_bound(self):
        for hall in (chain()[0], blank_chain()):
            self.assert_honoured(hall, "gret", 1, ROW[:2])
            self.assertEqual(open_places(hall, 1), [0, 1])

    def test_from_place_2_on_the_signature_itself_stays(self):
        for place in (2, 3, 4):
            for hall in (chain()[0], blank_chain()):
                self.assert_honoured(hall, "gret", place, ROW[:place + 1])
                self.assertEqual(open_places(hall, 1), list(range(place + 1)))

    def test_who_honoured_asks_that_place_then(self):
        for place in range(5):
            hall, bill = chain()
            hall.honour(1, 1, "gret", place)
            state, row = ("protested", ROW[:max(place, 2)]) if place else ("paid", [ROW[0], ("bert", False)])
            self.assert_asked(hall, place, ROW[place][0], state, row)
            self.assertEqual(hall.coins("gret"), 100)

    def test_one_honours_behind_another(self):
        hall, bill = chain()
        self.assert_honoured(hall, "gret", 4, ROW)
        self.assert_honoured(hall, "fred", 3, ROW[:4])
        self.assert_honoured(hall, "emil", 0, [("anna", True), ("bert", False)])
        self.assert_honoured(hall, "bert", 0, [("anna", True), ("bert", False)])

    def test_a_house_at_a_free_place_may_honour(self):
        hall = five()
        signed(hall, [("dora", False), ("emil", True)])
        protested(hall, 1)
        self.assert_honoured(hall, "carl", 3, [*ROW[:2], ("carl", False), ROW[3]])

    def test_a_house_behind_the_holder_s_reach_may_honour(self):
        hall = five()
        signed(hall, [("dora", True), ("carl", True)])
        protested(hall, 1)
        self.assertEqual(open_places(hall, 1), [0, 1])
        self.assert_refused(NotBound, hall, "honour", 1, 1, "emil", 3)
        self.assert_honoured(hall, "dora", 1, ROW[:2])

    def test_a_drawee_who_did_not_accept_may_honour(self):
        hall = five()
        signed(hall, [("dora", True)], accepted=False)
        protested(hall, 1)
        self.assert_honoured(hall, "anna", 2, [("anna", False), *ROW[1:3]])

    def test_a_drawer_left_free_may_honour_for_the_drawee(self):
        hall = five()
        signed(hall, [], drawer_bound=False)
        protested(hall, 1)
        self.assert_honoured(hall, "bert", 0, [("anna", True), ("bert", False)])

    def test_with_just_the_coins_and_one_less(self):
        for coins in (9, 10):
            hall = five()
            hall.house("fred", coins)
            signed(hall, [])
            protested(hall, 1)
            if coins == 9:
                self.assert_refused(CantPay, hall, "honour", 1, 1, "fred", 0)
            else:
                self.assert_honoured(hall, "fred", 0, [("anna", True), ("bert", False)])

    def test_who_is_failed_can_t_honour(self):
        hall, bill = chain()
        hall.fail("gret")
        self.assert_refused(CantPay, hall, "honour", 1, 1, "gret", 0)

    def test_who_is_honoured_and_who_holds_may_be_failed(self):
        hall, bill = chain()
        hall.fail("carl")
        hall.fail("fred")
        self.assert_honoured(hall, "gret", 2, ROW[:3])

    def test_unknown_houses(self):
        hall, bill = chain()
        for name in ("zora", "", "Anna", "ann"):
            self.assert_refused(NoHouse, hall, "honour", 1, 1, name, 0)

    def test_states(self):
        hall = five()
        signed(hall, [])
        self.assert_refused(NotPresented, hall, "honour", 1, 1, "emil", 0)
        unpaid(hall, 1)
        self.assert_refused(NotProtested, hall, "honour", 1, 1, "emil", 0)
        self.assert_refused(NotProtested, hall, "honour", 1, 1, "emil", 1)
        hall.present(signed(hall, []), 1)
        self.assert_refused(Closed, hall, "honour", 2, 1, "emil", 0)

    def test_places_that_are_not_open(self):
        hall = five()
        signed(hall, [("dora", False)], accepted=False)
        protested(hall, 1)
        for place in (0, 2, 3, -1, -2, HUGE, -HUGE):
            self.assert_refused(NotBound, hall, "honour", 1, 1, "emil", place)

    def test_the_holder_can_t_honour(self):
        hall, bill = chain()
        for place in range(5):
            self.assert_refused(Same, hall, "honour", 1, 1, "fred", place)

    def test_who_stands_at_any_open_place_can_t_honour(self):
        hall, bill = chain()
        for place in range(5):
            for house, bound in ROW:
                self.assert_refused(IsBound, hall, "honour", 1, 1, house, place)


if __name__ == "__main__":
    unittest.main()
