"""Long stories of deeds, done by a hall and by the second saying of the document in model.py."""

import collections
import random
import unittest

from allonge import fairs, recourse
from allonge.errors import HallError
from allonge.hall import Hall
from halls import METHODS, MOST, HallCase, told
from model import Model, Refused

NAMES = ("anna", "bert", "carl", "dora", "emil", "fred")
# How often each word is tried.
WEIGHTS = {
    "house": 2, "in": 3, "out": 3, "fail": 5, "mend": 8, "days": 4, "draw": 14, "accept": 14, "sign": 26, "blank": 9,
    "hand": 9, "lose": 3, "present": 12, "protest": 14, "ask": 18, "honour": 14, "fair": 2,
}
# The states of bills to which a deed can be done, where that is not only "running".
SUITED = {
    "lose": ("running", "unpaid", "protested"), "protest": ("unpaid",), "ask": ("protested", "unpaid"),
    "honour": ("protested",),
}
REFUSALS = {
    "house": "BadName Taken BadCoins Full", "in": "NoHouse BadCoins", "out": "NoHouse BadCoins NoCoins",
    "fail": "NoHouse Failed", "mend": "NoHouse Standing", "days": "BadCount",
    "draw": "NoHouse Failed BadCoins BadDay Full", "accept": "NoBill Void Failed Closed Accepted",
    "sign": "NoBill Void NoHouse Failed Closed Same Full", "blank": "NoBill Void NoHouse Failed Closed Same Full",
    "hand": "NoBill Void NoHouse Closed NotBlank Same", "lose": "NoBill Closed Full",
    "present": "NoBill Void Closed NotYet", "protest": "NoBill Void Closed NotPresented Protested TooLate",
    "ask": "NoBill Void Closed NotPresented NotBound CantPay",
    "honour": "NoBill Void NoHouse Closed NotPresented NotProtested NotBound Same IsBound CantPay",
    "fair": "NoHouse Twice",
}


def some_bill(chance, hall, word):
    """Mostly a bill to which the deed can be done, at times one of the last, at times none."""
    many = hall.many_bills()
    if chance.random() < 0.02:
        return chance.choice((0, -1, many + 1, 10 ** 30 - 1))
    states = SUITED.get(word, ("running",))
    suited = [bill for bill in range(1, many + 1) if hall.state(bill) in states]
    if suited and chance.random() < 0.8:
        return chance.choice(suited)
    return max(1, many - chance.randrange(6))


def some_copy(chance, hall, bill):
    if chance.random() < 0.03 or not 1 <= bill <= hall.many_bills():
        return chance.choice((0, 1, 2, 3, 4))
    return hall.copy_of(bill)


def some_place(chance, hall, bill):
    """Mostly an open place of the bill, if it has one."""
    places = recourse.open_places(hall, bill) if 1 <= bill <= hall.many_bills() else []
    return chance.choice(places) if places and chance.random() < 0.7 else chance.randint(-1, 4)


def some_name(chance):
    return chance.choice(NAMES) if chance.random() < 0.98 else chance.choice(("zora", "", "Anna", "an na"))


def some_names(chance, hall):
    names = chance.sample(NAMES, chance.randint(0, 6))
    if chance.random() < 0.3:
        names.insert(chance.randint(0, len(names)), chance.choice(("zora", "", *NAMES)))
    return names


def some_parts(chance, hall, word):
    """Parts for a deed, mostly such as may be done."""
    bill = some_bill(chance, hall, word)
    copy, name, bound = some_copy(chance, hall, bill), some_name(chance), chance.random() < 0.8
    amount = chance.choice((0, 1, 40, MOST, MOST + 1) if chance.random() < 0.1 else (5, 10, 20, 30))
    if word == "house":
        return chance.choice((*NAMES, "g", "hh", "iii", "jjjj", "Bad", "")), chance.choice((-1, 0, 30, MOST, MOST + 1))
    if word == "draw":
        due = hall.today() + chance.choice((0, 0, 0, 0, 1, 2, 1000, 1001, -1))
        return some_name(chance), some_name(chance), name, amount, due, bound
    if word == "fair":
        return (some_names(chance, hall),)
    if word == "days":
        return (chance.choice((0, 1, 1, 1, 1, 2, 3, 1001)),)
    return {
        "in": (name, amount), "out": (name, amount), "fail": (name,), "mend": (name,), "accept": (bill, copy),
        "sign": (bill, copy, name, bound), "blank": (bill, copy, name, bound), "hand": (bill, copy, name),
        "lose": (bill,), "present": (bill, copy), "protest": (bill, copy),
        "ask": (bill, copy, some_place(chance, hall, bill)),
        "honour": (bill, copy, name, some_place(chance, hall, bill)),
    }[word]


def outcome(done, refusal, name_of):
    """What a deed told, or the name of its refusal."""
    try:
        return "told", done()
    except refusal as error:
        return "refused", name_of(error)


class ModelTest(HallCase):
    def assert_alike(self, hall, model):
        self.assertEqual(hall.story(), model.story)
        self.assertEqual(hall.moment(), len(model.story))
        self.assertEqual(hall.today(), model.day)
        self.assertEqual([(name, hall.coins(name), hall.stands(name)) for name in hall.names()],
                         [(name, model.purse[name], "open" if model.standing[name] else "failed")
                          for name in sorted(model.purse)])
        self.assertEqual(hall.many_bills(), len(model.bills))
        for number, bill in enumerate(model.bills, 1):
            self.assertEqual(hall.paper(number), bill["paper"])
            self.assert_bill(hall, number, bill["state"], bill["holder"], bill["row"], bill["blank"])
            self.assertEqual(hall.copy_of(number), bill["copy"])
            self.assertEqual(recourse.open_places(hall, number), model.open_places(number))

    def assert_fair_alike(self, hall, model, names):
        for question in ("debts", "crowd", "nets"):
            asked = outcome(lambda: getattr(fairs, question)(hall, names), HallError, lambda e: e.__class__.__name__)
            self.assertEqual(asked, outcome(lambda: getattr(model, question)(names), Refused, str), (question, names))

    def one_story(self, seed, many, seen):
        chance = random.Random(seed)
        hall, model = Hall(), Model()
        for name in NAMES:
            coins = chance.choice((0, 10, 25, 60))
            for one in (lambda: hall.house(name, coins), lambda: model.do("house", name, coins)):
                one()
        words = chance.choices(list(WEIGHTS), list(WEIGHTS.values()), k=many)
        for word in words:
            parts = some_parts(chance, hall, word)
            if word == "fair":
                self.assert_fair_alike(hall, model, parts[0])
            before = told(hall)
            done = outcome(lambda: getattr(hall, METHODS[word])(*parts), HallError, lambda e: e.__class__.__name__)
            self.assertEqual(done, outcome(lambda: model.do(word, *parts), Refused, str), (seed, word, parts))
            seen[word, done[1] if done[0] == "refused" else "done"] += 1
            if word in ("ask", "honour") and done[0] == "told":
                seen[word, min(parts[-1], 2)] += 1
            if done[0] == "refused":
                self.assertEqual(told(hall), before, (seed, word, parts))
            self.assert_alike(hall, model)
        self.assertEqual(told(hall.twin()), told(hall))

    def test_long_stories(self):
        seen = collections.Counter()
        for seed in range(100):
            self.one_story(seed, 140, seen)
        wanted = [(word, name) for word, names in REFUSALS.items() for name in ["done", *names.split()]]
        # Six houses begin each story, and too few bills follow for a hall to be full of them.
        rare = [("draw", "Full"), ("sign", "Full"), ("blank", "Full"), ("house", "Full")]
        wanted += [(word, place) for word in ("ask", "honour") for place in (0, 1, 2)]
        missing = [pair for pair in wanted if not seen[pair] and pair not in rare]
        self.assertEqual(missing, [])


if __name__ == "__main__":
    unittest.main()
