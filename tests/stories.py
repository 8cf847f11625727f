"""Stories for the tests: one with each of the seventeen words, and long ones by chance."""

import random

from allonge import recourse
from allonge.errors import HallError
from allonge.hall import Hall
from halls import METHODS, MOST

# All seventeen words; what each deed tells stands behind it.
DEEDS = [
    (("house", "anna", 100), None),
    (("house", "bert", 50), None),
    (("house", "carl", 0), None),
    (("house", "dora", 20), None),
    (("in", "carl", 30), None),
    (("out", "bert", 5), None),
    (("draw", "bert", "anna", "carl", 10, 2, True), 1),
    (("draw", "bert", "anna", "carl", 20, 2, False), 2),
    (("draw", "carl", "dora", "bert", 5, 2, True), 3),
    (("draw", "carl", "dora", "bert", 6, 2, True), 4),
    (("accept", 1, 1), None),
    (("accept", 2, 1), None),
    (("accept", 4, 1), None),
    (("sign", 1, 1, "dora", True), None),
    (("blank", 2, 1, "dora", False), None),
    (("hand", 2, 1, "bert"), None),
    (("lose", 2), 2),
    (("days", 2), None),
    (("present", 1, 1), True),
    (("fail", "anna"), None),
    (("present", 2, 2), False),
    (("present", 3, 1), False),
    (("mend", "anna"), None),
    (("protest", 2, 2), None),
    (("protest", 3, 1), None),
    (("honour", 2, 2, "dora", 0), None),
    (("ask", 3, 1, 1), "carl"),
    (("ask", 2, 2, 0), "anna"),
    (("fair", ("dora", "bert")), [4]),
    (("fair", ()), []),
]
NAMES = ("anna", "bert", "carl", "dora", "emil", "fred")
# How often each word is tried.
WEIGHTS = {
    "house": 2, "in": 3, "out": 3, "fail": 5, "mend": 8, "days": 4, "draw": 14, "accept": 14, "sign": 26, "blank": 9,
    "hand": 9, "lose": 3, "present": 12, "protest": 14, "ask": 18, "honour": 14, "fair": 2,
}
# The states of bills to which a deed can be done, where that is not only "running".
SUITED = {
    "lose": ("running", "unpaid", "protested"), "protest": ("unpaid",), "ask": ("protested", "unpaid"),
    "honour": ("protested",),
}
# What point 16 says that each deed may be refused with, in its order.
REFUSALS = {
    "house": "BadName Taken BadCoins Full", "in": "NoHouse BadCoins", "out": "NoHouse BadCoins NoCoins",
    "fail": "NoHouse Failed", "mend": "NoHouse Standing", "days": "BadCount",
    "draw": "NoHouse Failed BadCoins BadDay Full", "accept": "NoBill Void Failed Closed Accepted",
    "sign": "NoBill Void NoHouse Failed Closed Same Full", "blank": "NoBill Void NoHouse Failed Closed Same Full",
    "hand": "NoBill Void NoHouse Closed NotBlank Same", "lose": "NoBill Closed Full",
    "present": "NoBill Void Closed NotYet", "protest": "NoBill Void Closed NotPresented Protested TooLate",
    "ask": "NoBill Void Closed NotPresented NotBound CantPay",
    "honour": "NoBill Void NoHouse Closed NotPresented NotProtested NotBound Same IsBound CantPay",
    "fair": "NoHouse Twice",
}


def do(hall, deed):
    word, *parts = deed
    if word == "fair":
        parts = [list(parts[0])]
    return getattr(hall, METHODS[word])(*parts)


def hall_behind(many):
    """A hall in which the first of the deeds were done."""
    hall = Hall()
    for deed, tells in DEEDS[:many]:
        do(hall, deed)
    return hall


def some_bill(chance, hall, word):
    """Mostly a bill to which the deed can be done, at times one of the last, at times none."""
    many = hall.many_bills()
    if chance.random() < 0.02:
        return chance.choice((0, -1, many + 1, 10 ** 30 - 1))
    states = SUITED.get(word, ("running",))
    suited = [bill for bill in range(1, many + 1) if hall.state(bill) in states]
    if suited and chance.random() < 0.8:
        return chance.choice(suited)
    return max(1, many - chance.randrange(6))


def some_copy(chance, hall, bill):
    if chance.random() < 0.03 or not 1 <= bill <= hall.many_bills():
        return chance.choice((0, 1, 2, 3, 4))
    return hall.copy_of(bill)


def some_place(chance, hall, bill):
    """Mostly an open place of the bill, if it has one."""
    places = recourse.open_places(hall, bill) if 1 <= bill <= hall.many_bills() else []
    return chance.choice(places) if places and chance.random() < 0.7 else chance.randint(-1, 4)


def some_name(chance):
    return chance.choice(NAMES) if chance.random() < 0.98 else chance.choice(("zora", "", "Anna", "an na"))


def some_names(chance, hall):
    names = chance.sample(NAMES, chance.randint(0, 6))
    if chance.random() < 0.3:
        names.insert(chance.randint(0, len(names)), chance.choice(("zora", "", *NAMES)))
    return names


def some_parts(chance, hall, word):
    """Parts for a deed, mostly such as may be done."""
    bill = some_bill(chance, hall, word)
    copy, name, bound = some_copy(chance, hall, bill), some_name(chance), chance.random() < 0.8
    amount = chance.choice((0, 1, 40, MOST, MOST + 1) if chance.random() < 0.1 else (5, 10, 20, 30))
    if word == "house":
        return chance.choice((*NAMES, "g", "hh", "iii", "jjjj", "Bad", "")), chance.choice((-1, 0, 30, MOST, MOST + 1))
    if word == "draw":
        due = hall.today() + chance.choice((0, 0, 0, 0, 1, 2, 1000, 1001, -1))
        return some_name(chance), some_name(chance), name, amount, due, bound
    if word == "fair":
        return (some_names(chance, hall),)
    if word == "days":
        return (chance.choice((0, 1, 1, 1, 1, 2, 3, 1001)),)
    return {
        "in": (name, amount), "out": (name, amount), "fail": (name,), "mend": (name,), "accept": (bill, copy),
        "sign": (bill, copy, name, bound), "blank": (bill, copy, name, bound), "hand": (bill, copy, name),
        "lose": (bill,), "present": (bill, copy), "protest": (bill, copy),
        "ask": (bill, copy, some_place(chance, hall, bill)),
        "honour": (bill, copy, name, some_place(chance, hall, bill)),
    }[word]


def outcome(done, refusal, name_of):
    """What a deed told, or the name of its refusal."""
    try:
        return "told", done()
    except refusal as error:
        return "refused", name_of(error)


def tries(seed, many, hall):
    """Six houses, then deeds by chance, each made for the hall as it stands then; pairs (word, parts)."""
    chance = random.Random(seed)
    for name in NAMES:
        yield "house", (name, chance.choice((0, 10, 25, 60)))
    for word in chance.choices(list(WEIGHTS), list(WEIGHTS.values()), k=many):
        yield word, some_parts(chance, hall, word)


def grown(seed, many):
    """A hall in which many deeds by chance were tried, and done where they were not refused."""
    hall = Hall()
    for word, parts in tries(seed, many, hall):
        try:
            getattr(hall, METHODS[word])(*parts)
        except HallError:
            pass
    return hall
