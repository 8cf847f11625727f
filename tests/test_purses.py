"""The purses of allonge.purses (points 1, 2 and 3)."""

import inspect
import unittest

from allonge import purses
from allonge.errors import BadCoins, NoCoins, NoHouse, Taken
from allonge.purses import Purses

MOST = 10 ** 30 - 1
METHODS = {
    "add_purse": ["self", "name", "coins"],
    "coins": ["self", "name"],
    "fill": ["self", "name", "coins"],
    "spend": ["self", "name", "coins"],
    "pay": ["self", "payer", "taker", "coins"],
    "total": ["self"],
    "all_names": ["self"],
}


def filled(**coins):
    kept = Purses()
    for name, amount in coins.items():
        kept.add_purse(name, amount)
    return kept


def told(kept):
    """All that can be asked of purses, as one value."""
    names = kept.all_names()
    return names, [kept.coins(name) for name in names], kept.total()


class PursesCase(unittest.TestCase):
    def assert_refused(self, error, kept, deed, *parts):
        before = told(kept)
        with self.assertRaises(error) as caught:
            getattr(kept, deed)(*parts)
        self.assertIs(caught.exception.__class__, error, (deed, parts))
        self.assertEqual(told(kept), before, (deed, parts))


class InterfaceTest(unittest.TestCase):
    def test_the_class_is_defined_in_its_file(self):
        self.assertEqual(purses.Purses.__module__, "allonge.purses")
        inspect.signature(Purses).bind()

    def test_each_method_stands_in_the_class_itself(self):
        for name, arguments in METHODS.items():
            with self.subTest(name=name):
                self.assertIn(name, vars(Purses))
                self.assertEqual(list(inspect.signature(vars(Purses)[name]).parameters), arguments)


class AddPurseTest(PursesCase):
    def test_adds_a_purse_and_gives_back_nothing(self):
        kept = Purses()
        self.assertIsNone(kept.add_purse("anna", 5))
        self.assertEqual(told(kept), (["anna"], [5], 5))

    def test_the_purse_holds_what_was_handed_in(self):
        for coins in (0, 1, 2, 1000000000000, 1000000000001, MOST):
            kept = filled(anna=coins)
            self.assertEqual(kept.coins("anna"), coins)
            self.assertIs(type(kept.coins("anna")), int)

    def test_a_taken_name_is_refused(self):
        kept = filled(anna=5, bert=0)
        self.assert_refused(Taken, kept, "add_purse", "anna", 7)
        self.assert_refused(Taken, kept, "add_purse", "bert", 7)
        self.assert_refused(Taken, kept, "add_purse", "anna", 5)

    def test_coins_below_nought_are_refused(self):
        for coins in (-1, -2, -MOST):
            self.assert_refused(BadCoins, filled(anna=5), "add_purse", "bert", coins)
            self.assert_refused(BadCoins, Purses(), "add_purse", "bert", coins)

    def test_taken_is_asked_ahead_of_bad_coins(self):
        self.assert_refused(Taken, filled(anna=5), "add_purse", "anna", -1)

    def test_after_a_refusal_the_name_is_still_free(self):
        kept = Purses()
        self.assert_refused(BadCoins, kept, "add_purse", "anna", -1)
        kept.add_purse("anna", 3)
        self.assertEqual(told(kept), (["anna"], [3], 3))

    def test_neither_the_count_nor_the_form_of_the_names_is_asked(self):
        kept = Purses()
        names = [f"house {number}" for number in range(12)] + ["", "ABC", "longerthaneight"]
        for name in names:
            kept.add_purse(name, 1)
        self.assertEqual(kept.all_names(), sorted(names))
        self.assertEqual(kept.total(), 15)


class CoinsTest(PursesCase):
    def test_tells_the_coins_of_the_house_asked_for(self):
        kept = filled(anna=5, bert=0, carl=9)
        self.assertEqual([kept.coins("carl"), kept.coins("anna"), kept.coins("bert")], [9, 5, 0])

    def test_an_unknown_house_is_refused(self):
        for name in ("bert", "", "Anna", "ann", "annab", "anna "):
            self.assert_refused(NoHouse, filled(anna=5), "coins", name)
        self.assert_refused(NoHouse, Purses(), "coins", "anna")

    def test_asking_changes_nothing(self):
        kept = filled(anna=5)
        kept.coins("anna")
        self.assertEqual(kept.coins("anna"), 5)


class FillTest(PursesCase):
    def test_adds_to_one_purse_and_gives_back_nothing(self):
        kept = filled(anna=5, bert=1)
        self.assertIsNone(kept.fill("anna", 3))
        self.assertEqual(told(kept), (["anna", "bert"], [8, 1], 9))

    def test_nought_and_many_coins(self):
        kept = filled(anna=0)
        kept.fill("anna", 0)
        self.assertEqual(kept.coins("anna"), 0)
        kept.fill("anna", 1)
        self.assertEqual(kept.coins("anna"), 1)
        kept.fill("anna", MOST)
        self.assertEqual(kept.coins("anna"), MOST + 1)

    def test_refusals(self):
        self.assert_refused(NoHouse, filled(anna=5), "fill", "bert", 1)
        self.assert_refused(BadCoins, filled(anna=5), "fill", "anna", -1)
        self.assert_refused(BadCoins, filled(anna=5), "fill", "anna", -5)

    def test_the_house_is_asked_ahead_of_the_coins(self):
        self.assert_refused(NoHouse, filled(anna=5), "fill", "bert", -1)


class SpendTest(PursesCase):
    def test_takes_from_one_purse_and_gives_back_nothing(self):
        kept = filled(anna=5, bert=9)
        self.assertIsNone(kept.spend("anna", 3))
        self.assertEqual(told(kept), (["anna", "bert"], [2, 9], 11))

    def test_down_to_nought_but_not_below(self):
        kept = filled(anna=5)
        kept.spend("anna", 0)
        self.assertEqual(kept.coins("anna"), 5)
        self.assert_refused(NoCoins, kept, "spend", "anna", 6)
        kept.spend("anna", 5)
        self.assertEqual(kept.coins("anna"), 0)
        kept.spend("anna", 0)
        self.assert_refused(NoCoins, kept, "spend", "anna", 1)

    def test_refusals(self):
        self.assert_refused(NoHouse, filled(anna=5), "spend", "bert", 1)
        self.assert_refused(BadCoins, filled(anna=5), "spend", "anna", -1)
        self.assert_refused(NoCoins, filled(anna=5), "spend", "anna", MOST)

    def test_the_house_is_asked_first(self):
        self.assert_refused(NoHouse, filled(anna=5), "spend", "bert", -1)
        self.assert_refused(NoHouse, filled(anna=5), "spend", "bert", 6)

    def test_coins_below_nought_are_refused_by_an_empty_purse_too(self):
        self.assert_refused(BadCoins, filled(anna=0), "spend", "anna", -1)


class PayTest(PursesCase):
    def test_moves_coins_and_gives_back_nothing(self):
        kept = filled(anna=5, bert=1, carl=7)
        self.assertIsNone(kept.pay("anna", "bert", 3))
        self.assertEqual(told(kept), (["anna", "bert", "carl"], [2, 4, 7], 13))

    def test_a_house_can_pay_all_it_has_but_not_more(self):
        kept = filled(anna=5, bert=9)
        self.assert_refused(NoCoins, kept, "pay", "anna", "bert", 6)
        kept.pay("anna", "bert", 5)
        self.assertEqual(told(kept), (["anna", "bert"], [0, 14], 14))
        self.assert_refused(NoCoins, kept, "pay", "anna", "bert", 1)

    def test_nought_coins_are_paid_by_an_empty_purse(self):
        kept = filled(anna=0, bert=9)
        kept.pay("anna", "bert", 0)
        self.assertEqual(told(kept), (["anna", "bert"], [0, 9], 9))

    def test_the_taker_may_be_poor_and_the_payer_must_not(self):
        kept = filled(anna=5, bert=0)
        kept.pay("anna", "bert", 5)
        self.assertEqual(told(kept), (["anna", "bert"], [0, 5], 5))
        kept.pay("bert", "anna", 4)
        self.assertEqual(told(kept), (["anna", "bert"], [4, 1], 5))

    def test_an_unknown_payer_or_taker_is_refused(self):
        kept = filled(anna=5, bert=9)
        self.assert_refused(NoHouse, kept, "pay", "carl", "anna", 1)
        self.assert_refused(NoHouse, kept, "pay", "anna", "carl", 1)
        self.assert_refused(NoHouse, kept, "pay", "carl", "dora", 1)
        self.assert_refused(NoHouse, kept, "pay", "carl", "carl", 0)

    def test_both_houses_are_asked_ahead_of_the_coins(self):
        kept = filled(anna=5, bert=9)
        for coins in (-1, 6):
            self.assert_refused(NoHouse, kept, "pay", "carl", "anna", coins)
            self.assert_refused(NoHouse, kept, "pay", "anna", "carl", coins)

    def test_bad_coins_are_asked_ahead_of_no_coins(self):
        self.assert_refused(BadCoins, filled(anna=0, bert=9), "pay", "anna", "bert", -1)
        self.assert_refused(BadCoins, filled(anna=5, bert=9), "pay", "anna", "bert", -1)

    def test_from_a_house_to_itself_nothing_moves(self):
        for coins in (0, 1, 4, 5):
            kept = filled(anna=5, bert=9)
            self.assertIsNone(kept.pay("anna", "anna", coins))
            self.assertEqual(told(kept), (["anna", "bert"], [5, 9], 14))

    def test_a_house_that_pays_itself_is_refused_as_any_other(self):
        self.assert_refused(NoCoins, filled(anna=5, bert=9), "pay", "anna", "anna", 6)
        self.assert_refused(NoCoins, filled(anna=0), "pay", "anna", "anna", 1)
        self.assert_refused(BadCoins, filled(anna=5, bert=9), "pay", "anna", "anna", -1)


class TotalTest(PursesCase):
    def test_is_the_sum_of_all_purses(self):
        self.assertEqual(Purses().total(), 0)
        self.assertEqual(filled(anna=5).total(), 5)
        self.assertEqual(filled(anna=5, bert=0, carl=5, dora=MOST).total(), MOST + 10)

    def test_follows_the_deeds(self):
        kept = filled(anna=5, bert=1)
        kept.pay("anna", "bert", 5)
        self.assertEqual(kept.total(), 6)
        kept.fill("anna", 10)
        self.assertEqual(kept.total(), 16)
        kept.spend("bert", 6)
        self.assertEqual(kept.total(), 10)


class AllNamesTest(PursesCase):
    def test_are_told_in_order_whatever_the_order_of_adding(self):
        self.assertEqual(Purses().all_names(), [])
        self.assertEqual(filled(dora=1, anna=2, carl=0, bert=3).all_names(), ["anna", "bert", "carl", "dora"])
        self.assertEqual(filled(b=1, ab=1, a=1, aa=1, abc=1).all_names(), ["a", "aa", "ab", "abc", "b"])

    def test_an_empty_purse_keeps_its_name(self):
        kept = filled(anna=1)
        kept.spend("anna", 1)
        self.assertEqual(kept.all_names(), ["anna"])

    def test_a_told_list_that_is_changed_changes_nothing(self):
        kept = filled(bert=1, anna=2)
        names = kept.all_names()
        self.assertIsInstance(names, list)
        names.append("carl")
        names[0] = "zora"
        self.assertEqual(told(kept), (["anna", "bert"], [2, 1], 3))

    def test_the_list_is_new_each_time(self):
        kept = filled(bert=1, anna=2)
        before = kept.all_names()
        self.assertIsNot(kept.all_names(), before)
        kept.add_purse("carl", 1)
        self.assertEqual(before, ["anna", "bert"])


class TwoObjectsTest(PursesCase):
    def test_know_nothing_of_one_another(self):
        first, second = Purses(), Purses()
        first.add_purse("anna", 5)
        self.assertEqual(told(second), ([], [], 0))
        self.assert_refused(NoHouse, second, "coins", "anna")
        second.add_purse("anna", 8)
        second.add_purse("bert", 1)
        second.pay("anna", "bert", 2)
        second.fill("anna", 100)
        first.spend("anna", 1)
        self.assertEqual(told(first), (["anna"], [4], 4))
        self.assertEqual(told(second), (["anna", "bert"], [106, 3], 109))


if __name__ == "__main__":
    unittest.main()
