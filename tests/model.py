"""The document's points 2 to 17 said a second time, over plain dicts, to compare halls with.

It is written from the points alone: crowds are found by trying all of them, open places one by one.
"""

import itertools
import string

TOP = 10 ** 12
RETURNED = ("unpaid", "protested")


class Refused(Exception):
    """A deed that the document refuses; its text is the refusal's name."""


class Model:
    def __init__(self):
        self.purse, self.standing, self.bills, self.story, self.day = {}, {}, [], [], 0

    # The refusals of point 16, each with its name and its test.

    def ask_all(self, *pairs):
        for name, test in pairs:
            if test():
                raise Refused(name)

    def no_house(self, *names):
        return "NoHouse", lambda: any(name not in self.purse for name in names)

    def failed(self, name):
        return "Failed", lambda: not self.standing[name()]

    def bill(self, number, copy=None):
        if number not in range(1, len(self.bills) + 1):
            raise Refused("NoBill")
        bill = self.bills[number - 1]
        if copy is not None and copy != bill["copy"]:
            raise Refused("Void")
        return bill

    def can_pay(self, name, amount):
        return self.standing[name] and self.purse[name] >= amount

    def pay(self, payer, taker, amount):
        self.purse[payer] -= amount
        self.purse[taker] += amount

    # Deeds, called by their words.

    def do(self, word, *parts):
        result = getattr(self, "do_" + word)(*parts)
        self.story.append((word, *[tuple(part) if isinstance(part, list) else part for part in parts]))
        return result

    def do_house(self, name, coins):
        self.ask_all(
            ("BadName", lambda: not 0 < len(name) < 9 or set(name) - set(string.ascii_lowercase)),
            ("Taken", lambda: name in self.purse),
            ("BadCoins", lambda: coins < 0 or coins > TOP),
            ("Full", lambda: len(self.purse) == 9),
        )
        self.purse[name], self.standing[name] = coins, True

    def do_in(self, name, coins):
        self.ask_all(self.no_house(name), ("BadCoins", lambda: coins < 1 or coins > TOP))
        self.purse[name] += coins

    def do_out(self, name, coins):
        self.ask_all(
            self.no_house(name), ("BadCoins", lambda: coins < 1 or coins > TOP),
            ("NoCoins", lambda: coins > self.purse[name]),
        )
        self.purse[name] -= coins

    def do_fail(self, name):
        self.ask_all(self.no_house(name), self.failed(lambda: name))
        self.standing[name] = False

    def do_mend(self, name):
        self.ask_all(self.no_house(name), ("Standing", lambda: self.standing[name]))
        self.standing[name] = True

    def do_days(self, many):
        self.ask_all(("BadCount", lambda: many < 1 or many > 1000))
        self.day += many

    def do_draw(self, drawer, drawee, payee, amount, due, bound):
        self.ask_all(
            self.no_house(drawer, drawee, payee), self.failed(lambda: drawer),
            ("BadCoins", lambda: amount < 1 or amount > TOP),
            ("BadDay", lambda: due < self.day or due > self.day + 1000),
            ("Full", lambda: len(self.bills) == 40),
        )
        self.bills.append({
            "paper": (drawer, drawee, payee, amount, due), "state": "running", "holder": payee, "copy": 1,
            "blank": False, "row": [(drawee, False), (drawer, bound)],
        })
        return len(self.bills)

    def do_accept(self, number, copy):
        bill = self.bill(number, copy)
        drawee = bill["paper"][1]
        self.ask_all(
            self.failed(lambda: drawee), ("Closed", lambda: bill["state"] != "running"),
            ("Accepted", lambda: bill["row"][0][1]),
        )
        bill["row"][0] = (drawee, True)

    def sign_on(self, number, copy, to, bound, blank):
        bill = self.bill(number, copy)
        self.ask_all(
            self.no_house(to), self.failed(lambda: bill["holder"]),
            ("Closed", lambda: bill["state"] != "running"), ("Same", lambda: bill["holder"] == to),
            ("Full", lambda: len(bill["row"]) - 2 == 6),
        )
        bill["row"].append((bill["holder"], bound))
        bill["holder"], bill["blank"] = to, blank

    def do_sign(self, number, copy, to, bound):
        self.sign_on(number, copy, to, bound, False)

    def do_blank(self, number, copy, to, bound):
        self.sign_on(number, copy, to, bound, True)

    def do_hand(self, number, copy, to):
        bill = self.bill(number, copy)
        self.ask_all(
            self.no_house(to), ("Closed", lambda: bill["state"] != "running"),
            ("NotBlank", lambda: not bill["blank"]), ("Same", lambda: bill["holder"] == to),
        )
        bill["holder"] = to

    def do_lose(self, number):
        bill = self.bill(number)
        self.ask_all(("Closed", lambda: bill["state"] == "paid"), ("Full", lambda: bill["copy"] == 3))
        bill["copy"] += 1
        return bill["copy"]

    def do_present(self, number, copy):
        bill = self.bill(number, copy)
        drawer, drawee, payee, amount, due = bill["paper"]
        self.ask_all(("Closed", lambda: bill["state"] != "running"), ("NotYet", lambda: self.day < due))
        bill["state"] = "unpaid"
        if bill["row"][0][1] and drawee == bill["holder"]:
            bill["state"] = "paid"
        elif bill["row"][0][1] and self.can_pay(drawee, amount):
            self.pay(drawee, bill["holder"], amount)
            bill["state"] = "paid"
        return bill["state"] == "paid"

    def came_back(self, bill):
        self.ask_all(
            ("Closed", lambda: bill["state"] == "paid"), ("NotPresented", lambda: bill["state"] == "running"),
        )

    def do_protest(self, number, copy):
        bill = self.bill(number, copy)
        self.came_back(bill)
        self.ask_all(
            ("Protested", lambda: bill["state"] == "protested"),
            ("TooLate", lambda: self.day > bill["paper"][4] + 3),
        )
        bill["state"] = "protested"

    def open_places(self, number):
        bill = self.bill(number)
        if bill["state"] not in RETURNED:
            return []
        found = []
        for place, (house, bound) in enumerate(bill["row"]):
            if (bill["holder"], True) in bill["row"][:place + 1]:
                break
            if bound and (place == 0 or bill["state"] == "protested"):
                found.append(place)
        return found

    def beside(self):
        """A model of its own that is alike but for the story."""
        other = Model()
        other.purse, other.standing, other.day = dict(self.purse), dict(self.standing), self.day
        other.bills = [{**bill, "row": list(bill["row"])} for bill in self.bills]
        return other

    def ends(self, number):
        """All who hold the bill, or have paid at place 0, behind any way of asking."""
        bill, found = self.bill(number), set()
        for place in self.open_places(number):
            if self.can_pay(bill["row"][place][0], bill["paper"][3]):
                after = self.beside()
                after.do_ask(number, bill["copy"], place)
                found |= after.ends(number)
        return found or {bill["holder"]}

    def bearer(self, number):
        self.came_back(self.bill(number))
        name, = self.ends(number)
        return name

    def do_ask(self, number, copy, place):
        bill = self.bill(number, copy)
        self.came_back(bill)
        self.ask_all(("NotBound", lambda: place not in self.open_places(number)))
        payer, amount = bill["row"][place][0], bill["paper"][3]
        self.ask_all(("CantPay", lambda: not self.can_pay(payer, amount)))
        self.pay(payer, bill["holder"], amount)
        bill["holder"] = payer
        if place == 0:
            bill["state"] = "paid"
        else:
            bill["row"] = [pair for at, pair in enumerate(bill["row"]) if at < 2 or at < place]
            bill["blank"] = False
        return payer

    def do_honour(self, number, copy, name, place):
        bill = self.bill(number, copy)
        self.ask_all(self.no_house(name))
        self.came_back(bill)
        places = self.open_places(number)
        self.ask_all(
            ("NotProtested", lambda: bill["state"] == "unpaid"), ("NotBound", lambda: place not in places),
            ("Same", lambda: name == bill["holder"]),
            ("IsBound", lambda: any(bill["row"][at][0] == name for at in places)),
            ("CantPay", lambda: not self.can_pay(name, bill["paper"][3])),
        )
        self.pay(name, bill["holder"], bill["paper"][3])
        bill["holder"], bill["blank"] = name, False
        bill["row"] = [pair for at, pair in enumerate(bill["row"]) if at < 2 and place == 0 or at <= place]
        if place == 0:
            bill["row"][1] = (bill["row"][1][0], False)

    # Fairs (points 13 to 15).

    def check_fair(self, names):
        self.ask_all(self.no_house(*names), ("Twice", lambda: len(set(names)) < len(names)))

    def at_fair(self, names):
        self.check_fair(names)
        return [
            number for number, bill in enumerate(self.bills, 1)
            if bill["state"] == "running" and bill["row"][0][1] and bill["paper"][4] <= self.day
            and {bill["row"][0][0], bill["holder"]} <= set(names)
        ]

    def debts(self, names):
        bills = [self.bills[number - 1] for number in self.at_fair(names)]
        owed = [(bill["row"][0][0], bill["holder"], bill["paper"][3]) for bill in bills]
        pairs = sorted({(payer, taker) for payer, taker, coins in owed if payer != taker})
        return [(*pair, sum(coins for *both, coins in owed if tuple(both) == pair)) for pair in pairs]

    def pays_itself(self, names, some):
        for name in some:
            comes = sum(coins for payer, taker, coins in self.debts(names) if taker == name and payer in some)
            goes = sum(coins for payer, taker, coins in self.debts(names) if payer == name)
            if not self.standing[name] or self.purse[name] + comes < goes:
                return False
        return True

    def crowd(self, names):
        self.check_fair(names)
        for many in range(len(names), -1, -1):
            crowds = [some for some in itertools.combinations(sorted(names), many) if self.pays_itself(names, some)]
            if crowds:
                assert len(crowds) == 1, crowds
                return list(crowds[0])

    def nets(self, names):
        crowd = self.crowd(names)
        paid = [row for row in self.debts(names) if row[0] in crowd]
        gets = {name: sum(coins for payer, taker, coins in paid if taker == name) for name in names}
        pays = {name: sum(coins for payer, taker, coins in paid if payer == name) for name in names}
        return [(name, gets[name] - pays[name]) for name in sorted(names)]

    def do_fair(self, names):
        crowd, nets = self.crowd(names), self.nets(names)
        paid = []
        for number in self.at_fair(names):
            bill = self.bills[number - 1]
            bill["state"] = "unpaid"
            if bill["row"][0][0] in crowd or bill["row"][0][0] == bill["holder"]:
                bill["state"] = "paid"
                paid.append(number)
        for name, net in nets:
            self.purse[name] += net
        return paid
