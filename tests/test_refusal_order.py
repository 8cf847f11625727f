"""Several faults at once: the first that point 16 names is told, and nothing changes.

Each maker builds a hall and the parts of a deed with just the faults that it is told.
"""

import itertools
import unittest

from allonge import errors
from halls import METHODS, HallCase, five, hall_of, signed


def make_house(has):
    hall = hall_of(anna=5)
    if "Full" in has:
        for name in ("b", "c", "d", "e", "f", "g", "h", "i"):
            hall.house(name, 0)
    name = "Bad" if "BadName" in has else "anna" if "Taken" in has else "zora"
    return hall, (name, -1 if "BadCoins" in has else 7)


def make_put_in(has):
    return hall_of(anna=5), ("zora" if "NoHouse" in has else "anna", 0 if "BadCoins" in has else 7)


def make_take_out(has):
    coins = 0 if "BadCoins" in has else 5
    if "NoCoins" in has:
        coins = 1000000000001 if "BadCoins" in has else 6
    return hall_of(anna=5), ("zora" if "NoHouse" in has else "anna", coins)


def make_fail(has):
    hall = five()
    if "Failed" in has:
        hall.fail("anna")
    return hall, ("zora" if "NoHouse" in has else "anna",)


def make_mend(has):
    hall = five()
    if "Standing" not in has:
        hall.fail("anna")
    return hall, ("zora" if "NoHouse" in has else "anna",)


def make_pass_days(has):
    return five(), (0 if "BadCount" in has else 1,)


def make_draw(has):
    hall = five()
    if "Full" in has:
        for number in range(40):
            hall.draw("anna", "bert", "carl", 1, 0, True)
    if "Failed" in has:
        hall.fail("anna")
    payee = "zora" if "NoHouse" in has else "carl"
    return hall, ("anna", "bert", payee, 0 if "BadCoins" in has else 1, -1 if "BadDay" in has else 0, True)


def paper_parts(hall, has, bill):
    """Number and copy: the present copy is 2, and 3 bills more are there."""
    hall.lose(bill)
    for number in range(3):
        signed(hall, [])
    return 7 if "NoBill" in has else bill, 1 if "Void" in has else 2


def make_accept(has):
    hall = five()
    bill = signed(hall, [], accepted="Accepted" in has)
    parts = paper_parts(hall, has, bill)
    if "Closed" in has:
        hall.present(bill, 2)
    if "Failed" in has:
        hall.fail("anna")
    return hall, parts


def make_sign(has):
    hall = five()
    signers = [("dora", True), ("carl", True)] * 3 if "Full" in has else []
    bill = signed(hall, signers)
    parts = paper_parts(hall, has, bill)
    if "Closed" in has:
        hall.present(bill, 2)
    if "Failed" in has:
        hall.fail("carl")
    to = "zora" if "NoHouse" in has else "carl" if "Same" in has else "dora"
    return hall, (*parts, to, True)


def make_hand(has):
    hall = five()
    bill = signed(hall, [])
    parts = paper_parts(hall, has, bill)
    if "NotBlank" not in has:
        hall.sign_blank(bill, 2, "dora", True)
        hall.hand(bill, 2, "carl")
    if "Closed" in has:
        hall.present(bill, 2)
    to = "zora" if "NoHouse" in has else "carl" if "Same" in has else "dora"
    return hall, (*parts, to)


def make_lose(has):
    hall = five()
    bill = signed(hall, [])
    if "Full" in has:
        hall.lose(bill)
        hall.lose(bill)
    if "Closed" in has:
        hall.present(bill, hall.copy_of(bill))
    return hall, (7 if "NoBill" in has else bill,)


def make_present(has):
    hall = five()
    bill = signed(hall, [], due=1 if "NotYet" in has else 0)
    parts = paper_parts(hall, has, bill)
    if "Closed" in has:
        hall.present(bill, 2)
    return hall, parts


def bring_back(hall, has, bill):
    """Present the bill: paid for Closed, not at all for NotPresented, else unpaid."""
    if "Closed" in has:
        hall.present(bill, 2)
    elif "NotPresented" not in has:
        hall.fail("anna")
        hall.present(bill, 2)
        hall.mend("anna")


def make_protest(has):
    hall = five()
    bill = signed(hall, [])
    parts = paper_parts(hall, has, bill)
    bring_back(hall, has, bill)
    if "Protested" in has:
        hall.protest(bill, 2)
    if "TooLate" in has:
        hall.pass_days(4)
    return hall, parts


def make_ask(has):
    hall = five()
    bill = signed(hall, [("dora", True), ("emil", True)])
    parts = paper_parts(hall, has, bill)
    bring_back(hall, has, bill)
    if hall.state(bill) == "unpaid":
        hall.protest(bill, 2)
    if "CantPay" in has:
        hall.fail("dora")
    return hall, (*parts, 4 if "NotBound" in has else 3)


def make_honour(has):
    hall = five()
    hall.house("fred", 100)
    bill = signed(hall, [("dora", True), ("emil", True)])
    parts = paper_parts(hall, has, bill)
    bring_back(hall, has, bill)
    if hall.state(bill) == "unpaid" and "NotProtested" not in has:
        hall.protest(bill, 2)
    name = "fred"
    if "NoHouse" in has:
        name = "zora"
    elif "Same" in has:
        name = hall.holder(bill)
    elif "IsBound" in has:
        # Unpaid, a bill has no open place but place 0.
        name = "anna" if "NotProtested" in has else "dora"
    if "CantPay" in has and name != "zora":
        hall.fail(name)
    place = 0 if "NotProtested" in has else 2
    return hall, (*parts, name, 4 if "NotBound" in has else place)


def make_fair(has):
    names = ["anna", "bert"]
    if "Twice" in has:
        names = ["anna", "bert", "anna"]
    if "NoHouse" in has:
        names.append("zora")
    return five(), (names,)


# The word, the refusals in the order of point 16, and those that can't come together.
ORDERS = [
    ("house", make_house, "BadName Taken BadCoins Full", ["BadName Taken"]),
    ("in", make_put_in, "NoHouse BadCoins", []),
    ("out", make_take_out, "NoHouse BadCoins NoCoins", []),
    ("fail", make_fail, "NoHouse Failed", []),
    ("mend", make_mend, "NoHouse Standing", []),
    ("days", make_pass_days, "BadCount", []),
    ("draw", make_draw, "NoHouse Failed BadCoins BadDay Full", []),
    ("accept", make_accept, "NoBill Void Failed Closed Accepted", []),
    ("sign", make_sign, "NoBill Void NoHouse Failed Closed Same Full", ["NoHouse Same"]),
    ("blank", make_sign, "NoBill Void NoHouse Failed Closed Same Full", ["NoHouse Same"]),
    ("hand", make_hand, "NoBill Void NoHouse Closed NotBlank Same", ["NoHouse Same"]),
    ("lose", make_lose, "NoBill Closed Full", []),
    ("present", make_present, "NoBill Void Closed NotYet", ["Closed NotYet"]),
    ("protest", make_protest, "NoBill Void Closed NotPresented Protested TooLate",
     ["Closed NotPresented", "Closed Protested", "NotPresented Protested"]),
    ("ask", make_ask, "NoBill Void Closed NotPresented NotBound CantPay", ["Closed NotPresented"]),
    ("honour", make_honour, "NoBill Void NoHouse Closed NotPresented NotProtested NotBound Same IsBound CantPay",
     ["NoHouse Same", "NoHouse IsBound", "Closed NotPresented", "Closed NotProtested", "NotPresented NotProtested",
      "Same IsBound"]),
    ("fair", make_fair, "NoHouse Twice", []),
]


def sets_of_faults(order, apart):
    """All sets of faults that can come together, the empty one too."""
    for many in range(len(order) + 1):
        for has in itertools.combinations(order, many):
            if not any(set(pair.split()) <= set(has) for pair in apart):
                yield has


class OrderTest(HallCase):
    def test_each_deed_is_here(self):
        self.assertEqual([word for word, make, order, apart in ORDERS], list(METHODS))

    def test_the_first_fault_that_is_named_is_told(self):
        for word, make, order, apart in ORDERS:
            for has in sets_of_faults(order.split(), apart):
                with self.subTest(word=word, has=has):
                    hall, parts = make(has)
                    if has:
                        self.assert_refused(getattr(errors, has[0]), hall, word, *parts)
                    else:
                        getattr(hall, METHODS[word])(*parts)
                        self.assertEqual(hall.story()[-1][0], word)


if __name__ == "__main__":
    unittest.main()
