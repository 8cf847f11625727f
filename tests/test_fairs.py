"""Fairs held and asked about: debts, crowd, nets and plan (points 13 to 16)."""

import inspect
import itertools
import random
import unittest

from allonge import fairs
from allonge.errors import NoHouse, Twice
from allonge.fairs import crowd, debts, nets, plan
from allonge.hall import Hall
from halls import MOST, HallCase, five, hall_of, protested, purses_of, signed, told, unpaid
from model import Model

QUESTIONS = (debts, crowd, nets, plan)


def owing(purses, *owed):
    """A hall with these purses and a due bill for each (debtor, creditor, coins)."""
    hall = hall_of(**purses)
    for debtor, creditor, coins in owed:
        signed(hall, [], amount=coins, drawer=creditor, drawee=debtor, payee=creditor)
    return hall


def states(hall):
    return [hall.state(bill) for bill in range(1, hall.many_bills() + 1)]


class FairCase(HallCase):
    def assert_held(self, hall, names, paid, purses):
        """The fair pays these bills; its others are unpaid, all else stays."""
        wanted = dict(enumerate(states(hall), 1))
        for bill in fairs.fair_bills(hall, names):
            wanted[bill] = "paid" if bill in paid else "unpaid"
        kept = [(hall.holder(bill), hall.row(bill), hall.in_blank(bill), hall.copy_of(bill)) for bill in wanted]
        self.assertEqual(hall.fair(names), paid)
        self.assertEqual(purses_of(hall), purses)
        self.assertEqual(states(hall), list(wanted.values()))
        self.assertEqual(
            [(hall.holder(bill), hall.row(bill), hall.in_blank(bill), hall.copy_of(bill)) for bill in wanted], kept)
        self.assertEqual(hall.story()[-1], ("fair", tuple(names)))

    def assert_plan(self, hall, names):
        """The rules of point 15, one by one."""
        payments, changes = plan(hall, names), nets(hall, names)
        self.assertIsInstance(payments, list)
        for payment in payments:
            payer, taker, coins = payment
            self.assertIs(type(payment), tuple)
            self.assertGreater(coins, 0)
            self.assertNotEqual(payer, taker)
            self.assertIn(payer, names)
            self.assertIn(taker, names)
        for name, net in changes:
            gets = sum(coins for payer, taker, coins in payments if taker == name)
            pays = sum(coins for payer, taker, coins in payments if payer == name)
            self.assertEqual(gets - pays, net)
        payers = {payer for payer, taker, coins in payments}
        self.assertFalse(payers & {taker for payer, taker, coins in payments})
        pairs = [(payer, taker) for payer, taker, coins in payments]
        self.assertEqual(len(pairs), len(set(pairs)))
        moved = [net for name, net in changes if net != 0]
        self.assertLessEqual(len(payments), max(0, len(moved) - 1))
        self.assertEqual(sum(coins for payer, taker, coins in payments), sum(net for net in moved if net > 0))
        return payments


class InterfaceTest(unittest.TestCase):
    def test_names_and_arguments(self):
        for question in QUESTIONS:
            self.assertEqual(question.__module__, "allonge.fairs")
            self.assertIs(getattr(fairs, question.__name__), question)
            self.assertEqual(list(inspect.signature(question).parameters), ["hall", "names"])


class NamesTest(FairCase):
    def test_unknown_houses_and_names_that_stand_twice(self):
        hall = owing({"anna": 10, "bert": 10}, ("anna", "bert", 5))
        for names in (["zora"], ["anna", "zora"], ["zora", "anna"], [""], ["Anna"], ["an na"]):
            self.assert_refused(NoHouse, hall, "fair", names)
            for question in QUESTIONS:
                self.assert_question_refused(NoHouse, question, hall, names)
        for names in (["anna", "anna"], ["bert", "anna", "bert"]):
            self.assert_refused(Twice, hall, "fair", names)
            for question in QUESTIONS:
                self.assert_question_refused(Twice, question, hall, names)

    def test_unknown_houses_are_asked_first(self):
        hall = owing({"anna": 10, "bert": 10}, ("anna", "bert", 5))
        for names in (["anna", "anna", "zora"], ["zora", "anna", "anna"], ["zora", "zora"]):
            self.assert_refused(NoHouse, hall, "fair", names)
            for question in QUESTIONS:
                self.assert_question_refused(NoHouse, question, hall, names)

    def test_in_a_hall_without_houses(self):
        hall = Hall()
        self.assert_refused(NoHouse, hall, "fair", ["anna"])
        self.assert_held(hall, [], [], {})

    def test_the_list_stays_and_may_be_changed_afterwards(self):
        hall = owing({"carl": 10, "anna": 10, "bert": 10}, ("carl", "bert", 5), ("anna", "bert", 50))
        names = ["carl", "bert", "anna"]
        answers = [question(hall, names) for question in QUESTIONS]
        self.assertEqual(names, ["carl", "bert", "anna"])
        hall.fair(names)
        self.assertEqual(names, ["carl", "bert", "anna"])
        names.clear()
        self.assertEqual(hall.story()[-1], ("fair", ("carl", "bert", "anna")))
        self.assertEqual(answers[1], ["bert", "carl"])

    def test_told_lists_that_are_changed_change_nothing(self):
        hall = owing({"anna": 10, "bert": 10, "carl": 10}, ("anna", "bert", 5), ("bert", "carl", 5))
        before = told(hall)
        names = hall.names()
        for question in QUESTIONS:
            kept = question(hall, names)
            answer = question(hall, names)
            self.assertIsInstance(answer, list)
            answer.append(answer[0])
            answer[0] = None
            self.assertEqual(question(hall, names), kept)
        self.assertEqual((told(hall), names), (before, ["anna", "bert", "carl"]))
        paid = hall.fair(names)
        paid.clear()
        self.assertEqual(hall.story()[-1], ("fair", ("anna", "bert", "carl")))

    def test_asking_changes_nothing(self):
        hall = owing({"anna": 10, "bert": 0}, ("anna", "bert", 5), ("bert", "anna", 50))
        before = told(hall)
        for question in QUESTIONS:
            question(hall, ["bert", "anna"])
        self.assertEqual(told(hall), before)


class BillsOfAFairTest(FairCase):
    def test_of_no_houses(self):
        hall = owing({"anna": 10, "bert": 10}, ("anna", "bert", 5))
        self.assertEqual([question(hall, []) for question in QUESTIONS], [[], [], [], []])
        self.assert_held(hall, [], [], {"anna": 10, "bert": 10})
        self.assertEqual(states(hall), ["running"])

    def test_of_one_house(self):
        hall = owing({"anna": 10, "bert": 10}, ("anna", "bert", 5))
        for names in (["anna"], ["bert"]):
            self.assertEqual([question(hall, names) for question in QUESTIONS], [[], names, [(names[0], 0)], []])
            self.assert_held(hall, names, [], {"anna": 10, "bert": 10})
        self.assertEqual(states(hall), ["running"])

    def test_drawee_and_holder_must_both_be_of_the_fair(self):
        ring = [("anna", "bert", 1), ("bert", "carl", 2), ("carl", "anna", 3)]
        hall = owing({"anna": 10, "bert": 10, "carl": 10}, *ring)
        self.assertEqual(debts(hall, ["anna", "bert"]), [("anna", "bert", 1)])
        self.assertEqual(debts(hall, ["carl", "anna"]), [("carl", "anna", 3)])
        self.assertEqual(debts(hall, ["carl", "bert", "anna"]), ring)
        self.assert_held(hall, ["carl", "bert"], [2], {"anna": 10, "bert": 8, "carl": 12})
        self.assertEqual(states(hall), ["running", "paid", "running"])

    def test_the_holder_counts_not_payee_or_drawer(self):
        hall = five()
        signed(hall, [("dora", True), ("emil", True)])
        self.assertEqual(debts(hall, ["anna", "bert", "carl", "dora"]), [])
        self.assert_held(hall, ["emil", "anna"], [1], {"anna": 90, "bert": 100, "carl": 100, "dora": 100, "emil": 110})

    def test_bills_that_are_not_accepted_or_not_due(self):
        hall = five()
        hall.pass_days(5)
        signed(hall, [], accepted=False)
        signed(hall, [], due=6)
        signed(hall, [], due=5)
        self.assertEqual(debts(hall, hall.names()), [("anna", "carl", 10)])
        hall.fair(hall.names())
        self.assertEqual(states(hall), ["running", "running", "paid"])
        hall.accept(1, 1)
        hall.pass_days(1)
        signed(hall, [], due=6)
        hall.pass_days(900)
        self.assertEqual(debts(hall, hall.names()), [("anna", "carl", 30)])
        self.assertEqual(hall.fair(hall.names()), [1, 2, 4])

    def test_bills_that_are_not_running(self):
        hall = five()
        for number in range(4):
            signed(hall, [])
        unpaid(hall, 1)
        protested(hall, 2)
        hall.present(3, 1)
        purses = purses_of(hall)
        purses["anna"] -= 10
        purses["carl"] += 10
        self.assertEqual(debts(hall, hall.names()), [("anna", "carl", 10)])
        self.assert_held(hall, hall.names(), [4], purses)
        self.assert_held(hall, hall.names(), [], purses)

    def test_lost_bills_and_bills_in_blank_stand_there_too(self):
        hall = five()
        signed(hall, [])
        hall.sign_blank(1, 1, "dora", True)
        hall.hand(1, 1, "emil")
        hall.lose(1)
        self.assert_held(hall, ["anna", "emil"], [1], {"anna": 90, "bert": 100, "carl": 100, "dora": 100, "emil": 110})

    def test_a_bill_that_a_fair_left_unpaid_can_be_protested_and_asked(self):
        hall = owing({"anna": 9, "bert": 10}, ("anna", "bert", 10))
        self.assert_held(hall, ["anna", "bert"], [], {"anna": 9, "bert": 10})
        hall.protest(1, 1)
        hall.put_in("anna", 1)
        self.assertEqual(hall.ask(1, 1, 0), "anna")


class DraweeWhoHoldsTest(FairCase):
    def test_owes_nothing_and_the_bill_is_paid(self):
        for failed in (False, True):
            hall = hall_of(anna=0, bert=5)
            signed(hall, [("anna", True)], amount=MOST, payee="bert")
            if failed:
                hall.fail("anna")
            self.assertEqual(debts(hall, ["anna"]), [])
            self.assertEqual(crowd(hall, ["anna"]), [] if failed else ["anna"])
            self.assertEqual((nets(hall, ["anna"]), plan(hall, ["anna"])), ([("anna", 0)], []))
            self.assert_held(hall, ["anna"], [1], {"anna": 0, "bert": 5})

    def test_who_can_t_pay_its_other_bills(self):
        hall = owing({"anna": 9, "bert": 0}, ("anna", "bert", 10), ("anna", "anna", 7), ("bert", "bert", 8))
        self.assertEqual(debts(hall, ["anna", "bert"]), [("anna", "bert", 10)])
        self.assertEqual(crowd(hall, ["anna", "bert"]), ["bert"])
        self.assert_held(hall, ["anna", "bert"], [2, 3], {"anna": 9, "bert": 0})
        self.assertEqual(states(hall), ["unpaid", "paid", "paid"])

    def test_not_accepted_it_does_not_stand_there(self):
        hall = five()
        signed(hall, [("anna", True)], accepted=False)
        self.assert_held(hall, ["anna"], [], purses_of(five()))
        self.assertEqual(states(hall), ["running"])

    def test_its_own_bill_is_no_help_for_others(self):
        hall = owing({"anna": 9, "bert": 0}, ("anna", "anna", 10), ("anna", "bert", 10))
        self.assertEqual(crowd(hall, ["anna", "bert"]), ["bert"])


class CrowdTest(FairCase):
    def test_who_has_just_the_coins_and_who_has_one_less(self):
        for coins, able in ((10, ["anna", "bert"]), (9, ["bert"])):
            hall = owing({"anna": coins, "bert": 0}, ("anna", "bert", 4), ("anna", "bert", 6))
            self.assertEqual(debts(hall, ["bert", "anna"]), [("anna", "bert", 10)])
            self.assertEqual(crowd(hall, ["bert", "anna"]), able)
        self.assert_held(hall, ["bert", "anna"], [], {"anna": 9, "bert": 0})
        self.assertEqual(states(hall), ["unpaid", "unpaid"])

    def test_all_bills_of_a_drawee_or_none(self):
        hall = owing({"anna": 9, "bert": 0, "carl": 0}, ("anna", "bert", 1), ("anna", "carl", 9))
        self.assert_held(hall, ["anna", "bert", "carl"], [], {"anna": 9, "bert": 0, "carl": 0})

    def test_a_ring_pays_without_any_coin(self):
        hall = owing({"anna": 0, "bert": 0, "carl": 0}, ("anna", "bert", 7), ("bert", "carl", 7), ("carl", "anna", 7))
        self.assertEqual(crowd(hall, hall.names()), ["anna", "bert", "carl"])
        self.assertEqual(nets(hall, hall.names()), [("anna", 0), ("bert", 0), ("carl", 0)])
        self.assertEqual(plan(hall, hall.names()), [])
        self.assert_held(hall, ["carl", "anna", "bert"], [1, 2, 3], {"anna": 0, "bert": 0, "carl": 0})

    def test_who_can_pay_only_with_what_others_pay(self):
        purses = {"anna": 10, "bert": 0, "carl": 0, "dora": 0}
        owed = [("anna", "bert", 10), ("bert", "carl", 10), ("carl", "dora", 10)]
        hall = owing(purses, *owed)
        self.assertEqual(crowd(hall, hall.names()), ["anna", "bert", "carl", "dora"])
        self.assertEqual(nets(hall, hall.names()), [("anna", -10), ("bert", 0), ("carl", 0), ("dora", 10)])
        self.assertEqual(plan(hall, hall.names()), [("anna", "dora", 10)])
        self.assert_held(hall, ["dora", "carl", "bert", "anna"], [1, 2, 3], {**purses, "anna": 0, "dora": 10})

    def test_one_strikes_the_other(self):
        purses = {"anna": 9, "bert": 0, "carl": 0, "dora": 0}
        hall = owing(purses, ("carl", "dora", 10), ("bert", "carl", 10), ("anna", "bert", 10))
        self.assertEqual(crowd(hall, hall.names()), ["dora"])
        self.assertEqual(nets(hall, hall.names()), [(name, 0) for name in hall.names()])
        self.assertEqual(plan(hall, hall.names()), [])
        self.assert_held(hall, hall.names(), [], purses)
        self.assertEqual(states(hall), ["unpaid"] * 3)

    def test_who_is_struck_is_not_paid_either_by_others_of_its_ring(self):
        # Carl owes dora, who is not of the crowd, and needs for it what bert owes.
        purses = {"anna": 0, "bert": 10, "carl": 0, "dora": 0}
        hall = owing(purses, ("bert", "carl", 10), ("carl", "dora", 10), ("dora", "anna", 11))
        self.assertEqual(crowd(hall, hall.names()), ["anna", "bert", "carl"])
        self.assertEqual(nets(hall, hall.names()), [("anna", 0), ("bert", -10), ("carl", 0), ("dora", 10)])
        self.assert_held(hall, hall.names(), [1, 2], {"anna": 0, "bert": 0, "carl": 0, "dora": 10})
        self.assertEqual(states(hall), ["paid", "paid", "unpaid"])

    def test_debts_to_houses_outside_the_crowd_count(self):
        hall = owing({"anna": 5, "bert": 0}, ("anna", "bert", 6), ("bert", "anna", 1))
        hall.fail("bert")
        # Bert is failed and pays anna nothing.
        self.assertEqual(crowd(hall, ["anna", "bert"]), [])
        hall.put_in("anna", 1)
        self.assertEqual(crowd(hall, ["anna", "bert"]), ["anna"])
        self.assert_held(hall, ["anna", "bert"], [1], {"anna": 0, "bert": 6})

    def test_nobody_can_pay(self):
        purses = {"anna": 0, "bert": 0}
        hall = owing(purses, ("anna", "bert", 5), ("bert", "anna", 4))
        self.assertEqual(crowd(hall, ["anna", "bert"]), [])
        self.assert_held(hall, ["anna", "bert"], [], purses)

    def test_failed_houses_are_of_no_crowd_even_if_they_owe_nothing(self):
        hall = owing({"anna": 10, "bert": 0, "carl": 5}, ("anna", "bert", 5))
        hall.fail("bert")
        hall.fail("carl")
        self.assertEqual(crowd(hall, hall.names()), ["anna"])
        self.assert_held(hall, hall.names(), [1], {"anna": 5, "bert": 5, "carl": 5})

    def test_a_failed_house_that_is_owed_more_than_it_owes(self):
        hall = owing({"anna": 10, "bert": 10}, ("anna", "bert", 8), ("bert", "anna", 1))
        hall.fail("bert")
        self.assertEqual(crowd(hall, ["anna", "bert"]), ["anna"])
        self.assert_held(hall, ["anna", "bert"], [1], {"anna": 2, "bert": 18})
        self.assertEqual(states(hall), ["paid", "unpaid"])

    def test_a_purse_is_never_below_0_on_the_way(self):
        purses = {"anna": 0, "bert": 0, "carl": 1}
        hall = owing(purses, ("anna", "bert", MOST), ("bert", "anna", MOST), ("carl", "bert", 1))
        self.assert_held(hall, hall.names(), [1, 2, 3], {"anna": 0, "bert": 1, "carl": 0})

    def test_failed_holders_are_paid(self):
        hall = five()
        signed(hall, [])
        hall.fail("carl")
        self.assertEqual(hall.fair(["carl", "anna"]), [1])
        self.assertEqual((hall.coins("carl"), hall.stands("carl")), (110, "failed"))


class DebtsTest(FairCase):
    def test_one_for_each_two_houses_with_all_bills_together(self):
        hall = owing({"anna": 0, "bert": 0, "carl": 0}, ("carl", "anna", 1), ("anna", "carl", 2), ("anna", "bert", 3),
                     ("carl", "anna", 4), ("anna", "carl", MOST), ("anna", "anna", 9))
        wanted = [("anna", "bert", 3), ("anna", "carl", MOST + 2), ("carl", "anna", 5)]
        for names in itertools.permutations(hall.names()):
            self.assertEqual(debts(hall, list(names)), wanted)
        self.assertTrue(all(type(debt) is tuple for debt in debts(hall, hall.names())))

    def test_debts_that_are_not_paid_are_told_too(self):
        hall = owing({"anna": 0, "bert": 0}, ("anna", "bert", 3))
        hall.fail("anna")
        self.assertEqual(debts(hall, ["anna", "bert"]), [("anna", "bert", 3)])


class NetsTest(FairCase):
    def test_one_for_each_house_also_with_net_0(self):
        hall = owing({"anna": 9, "bert": 9, "carl": 9, "dora": 9}, ("carl", "anna", 5), ("anna", "carl", 2),
                     ("anna", "bert", 3))
        wanted = [("anna", 0), ("bert", 3), ("carl", -3), ("dora", 0)]
        for names in itertools.permutations(hall.names()):
            self.assertEqual(nets(hall, list(names)), wanted)
        self.assertTrue(all(type(net) is tuple for net in nets(hall, hall.names())))

    def test_only_what_is_paid_counts(self):
        hall = owing({"anna": 9, "bert": 0, "carl": 0}, ("anna", "bert", 5), ("carl", "bert", 2))
        self.assertEqual(nets(hall, hall.names()), [("anna", -5), ("bert", 5), ("carl", 0)])


class PlanTest(FairCase):
    def test_each_house_pays_or_takes(self):
        hall = owing({"anna": 10, "bert": 0, "carl": 0}, ("anna", "bert", 10), ("bert", "carl", 4))
        payments = self.assert_plan(hall, hall.names())
        self.assertEqual(sorted(payments), [("anna", "bert", 6), ("anna", "carl", 4)])

    def test_two_houses_that_owe_one_another(self):
        hall = owing({"anna": 10, "bert": 10}, ("anna", "bert", 10), ("bert", "anna", 4))
        self.assertEqual(self.assert_plan(hall, ["bert", "anna"]), [("anna", "bert", 6)])

    def test_fewer_payments_than_houses(self):
        names = list("abcdefghi")
        hall = owing({name: 100 for name in names}, *[(payer, taker, 1 + at) for at, (payer, taker) in enumerate(
            itertools.product("abcd", "efghi"))])
        self.assertEqual(len(debts(hall, names)), 20)
        self.assertEqual(crowd(hall, names), names)
        self.assertLess(len(self.assert_plan(hall, names)), 9)

    def test_the_same_whatever_the_order_of_the_names(self):
        hall = owing({"anna": 10, "bert": 10, "carl": 0, "dora": 0}, ("anna", "carl", 7), ("bert", "dora", 5),
                     ("bert", "carl", 2))
        plans = [self.assert_plan(hall, list(names)) for names in itertools.permutations(hall.names())]
        self.assertEqual(plans, [sorted(plans[0])] * 24)

    def test_paying_by_the_plan_makes_the_purses_of_the_fair(self):
        hall = owing({"anna": 10, "bert": 10, "carl": 3, "dora": 0}, ("anna", "carl", 7), ("bert", "dora", 5),
                     ("bert", "carl", 2), ("carl", "dora", 12), ("dora", "anna", 60))
        purses = purses_of(hall)
        for payer, taker, coins in self.assert_plan(hall, hall.names()):
            purses[payer] -= coins
            purses[taker] += coins
        hall.fair(hall.names())
        self.assertEqual(purses_of(hall), purses)


class ManyFairsTest(FairCase):
    """Fairs of all kinds against model.py, which tries all crowds; always the same ones."""

    def build(self, seed):
        chance = random.Random(seed)
        names = list("abcdef")[:chance.randint(2, 6)]
        deeds = [("house", name, chance.choice((0, 0, 3, 10, 20))) for name in names]
        for bill in range(1, chance.randint(2, 14)):
            drawee, holder = chance.choice(names), chance.choice(names)
            deeds.append(("draw", chance.choice(names), drawee, holder, chance.randint(1, 15), 0, True))
            if chance.random() < 0.9:
                deeds.append(("accept", bill, 1))
        deeds.extend([("fail", name) for name in names if chance.random() < 0.1])
        hall, model = Hall(), Model()
        for word, *parts in deeds:
            getattr(hall, word)(*parts)
            model.do(word, *parts)
        return hall, model, chance.sample(names, chance.choice((len(names), chance.randint(0, len(names)))))

    def test_as_the_points_say(self):
        for seed in range(150):
            hall, model, names = self.build(seed)
            for question in (debts, crowd, nets):
                self.assertEqual(question(hall, names), getattr(model, question.__name__)(names), (seed, names))
            self.assert_plan(hall, names)
            self.assertEqual(hall.fair(names), model.do("fair", names), (seed, names))
            self.assertEqual(purses_of(hall), model.purse)
            self.assertEqual(states(hall), [bill["state"] for bill in model.bills])
            self.assertGreaterEqual(min(model.purse.values()), 0)


if __name__ == "__main__":
    unittest.main()
