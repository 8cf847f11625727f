"""A hall: the houses, their purses, the days and the bills, and all deeds with them.

Each deed asks its refusals first and changes something only behind the last of them.
"""

from allonge.bills import PAID, PROTESTED, RUNNING, UNPAID, Bill
from allonge.errors import (
    Accepted, BadCoins, BadCount, BadDay, BadName, CantPay, Closed, Failed, Full, IsBound, NoBill, NoHouse, NotBlank,
    NotBound, NotProtested, NotYet, Protested, Same, Standing, Taken, TooLate, Void,
)
from allonge.fairs import fair_bills, nets, paid_bills
from allonge.purses import Purses
from allonge.recourse import check_returned, open_places
from allonge.slips import honoured, is_name, returned

MOST_COINS = 1000000000000
MOST_HOUSES = 9
MOST_BILLS = 40
MOST_COPIES = 3
# The drawee, the drawer and six who signed.
MOST_PLACES = 8
MOST_DAYS = 1000
LAST_DUE = 1000
PROTEST_DAYS = 3


def check_coins(coins, least):
    """Refuse coins that are not from the least to the most."""
    if not least <= coins <= MOST_COINS:
        raise BadCoins("no such amount is allowed here")


def check_running(drawn):
    """Refuse a bill that is not running."""
    if drawn.phase != RUNNING:
        raise Closed("the bill is not running")


class Hall:
    """A hall of its own, at day 0 and without houses."""

    def __init__(self):
        self.purses = Purses()
        self.failed = []
        self.day = 0
        self.bills = []
        self.deeds = []

    # What several deeds ask ahead.

    def check_house(self, name):
        """Refuse a name that no house has."""
        if name not in self.purses.all_names():
            raise NoHouse(name)

    def check_standing(self, name):
        """Refuse a house that is failed."""
        if name in self.failed:
            raise Failed(name)

    def check_payer(self, name, amount):
        """Refuse a house that can't pay the amount."""
        if not self.can_pay(name, amount):
            raise CantPay(name)

    def find_bill(self, bill):
        """Tell the bill of the number."""
        if not 1 <= bill <= len(self.bills):
            raise NoBill("no bill has the number")
        return self.bills[bill - 1]

    def find_copy(self, bill, copy):
        """Tell the bill whose present copy this is."""
        drawn = self.find_bill(bill)
        if copy != drawn.issue:
            raise Void("the copy is not the present one")
        return drawn

    # Deeds.

    def house(self, name, coins):
        """Add a house with these coins."""
        if not is_name(name):
            raise BadName(name)
        if name in self.names():
            raise Taken(name)
        check_coins(coins, 0)
        if len(self.names()) >= MOST_HOUSES:
            raise Full("no more houses")
        self.purses.add_purse(name, coins)
        self.deeds.append(("house", name, coins))

    def put_in(self, name, coins):
        """Put coins from outside into a purse."""
        self.check_house(name)
        check_coins(coins, 1)
        self.purses.fill(name, coins)
        self.deeds.append(("in", name, coins))

    def take_out(self, name, coins):
        """Take coins out of a purse and of the hall."""
        self.check_house(name)
        check_coins(coins, 1)
        # The purse itself refuses with NoCoins, and stays as it is then.
        self.purses.spend(name, coins)
        self.deeds.append(("out", name, coins))

    def fail(self, name):
        """Let a house fail."""
        self.check_house(name)
        self.check_standing(name)
        self.failed.append(name)
        self.deeds.append(("fail", name))

    def mend(self, name):
        """Let a failed house stand open again."""
        self.check_house(name)
        if name not in self.failed:
            raise Standing(name)
        self.failed.remove(name)
        self.deeds.append(("mend", name))

    def pass_days(self, many):
        """Let days go by."""
        if not 1 <= many <= MOST_DAYS:
            raise BadCount("no such count of days is allowed")
        self.day += many
        self.deeds.append(("days", many))

    def draw(self, drawer, drawee, payee, amount, due, bound):
        """Draw a bill and tell its number."""
        for name in (drawer, drawee, payee):
            self.check_house(name)
        self.check_standing(drawer)
        check_coins(amount, 1)
        if not self.day <= due <= self.day + LAST_DUE:
            raise BadDay("no such due day is allowed")
        if len(self.bills) >= MOST_BILLS:
            raise Full("no more bills")
        self.bills.append(Bill(drawer, drawee, payee, amount, due, bound))
        self.deeds.append(("draw", drawer, drawee, payee, amount, due, bound))
        return len(self.bills)

    def accept(self, bill, copy):
        """Let the drawee accept the bill."""
        drawn = self.find_copy(bill, copy)
        drawee, accepted = drawn.places[0]
        self.check_standing(drawee)
        check_running(drawn)
        if accepted:
            raise Accepted(drawee)
        drawn.places[0] = (drawee, True)
        self.deeds.append(("accept", bill, copy))

    def sign(self, bill, copy, to, bound):
        """Let the holder sign the bill on to a house."""
        self.sign_on(bill, copy, to, bound, False)
        self.deeds.append(("sign", bill, copy, to, bound))

    def sign_blank(self, bill, copy, to, bound):
        """Let the holder sign the bill on to a house, in blank."""
        self.sign_on(bill, copy, to, bound, True)
        self.deeds.append(("blank", bill, copy, to, bound))

    def sign_on(self, bill, copy, to, bound, blank):
        """Do what both ways of signing do, but for the story."""
        drawn = self.find_copy(bill, copy)
        self.check_house(to)
        self.check_standing(drawn.keeper)
        check_running(drawn)
        if to == drawn.keeper:
            raise Same(to)
        if len(drawn.places) >= MOST_PLACES:
            raise Full("no more signatures")
        drawn.places.append((drawn.keeper, bound))
        drawn.keeper = to
        drawn.blank = blank

    def hand(self, bill, copy, to):
        """Hand a bill whose back is in blank on to a house."""
        drawn = self.find_copy(bill, copy)
        self.check_house(to)
        check_running(drawn)
        if not drawn.blank:
            raise NotBlank("the back is not in blank")
        if to == drawn.keeper:
            raise Same(to)
        drawn.keeper = to
        self.deeds.append(("hand", bill, copy, to))

    def lose(self, bill):
        """Lose the present copy of the bill and tell the next one."""
        drawn = self.find_bill(bill)
        if drawn.phase == PAID:
            raise Closed("the bill is paid")
        if drawn.issue >= MOST_COPIES:
            raise Full("no more copies")
        drawn.issue += 1
        self.deeds.append(("lose", bill))
        return drawn.issue

    def present(self, bill, copy):
        """Present the bill to its drawee and tell whether it is paid."""
        drawn = self.find_copy(bill, copy)
        check_running(drawn)
        if self.day < drawn.due:
            raise NotYet("the due day is not reached")
        drawee, accepted = drawn.places[0]
        # A drawee who holds the bill needs no coin, not even a purse that could pay.
        own = drawee == drawn.keeper
        paid = accepted and (own or self.can_pay(drawee, drawn.amount))
        if paid and not own:
            self.purses.pay(drawee, drawn.keeper, drawn.amount)
        drawn.phase = PAID if paid else UNPAID
        self.deeds.append(("present", bill, copy))
        return paid

    def protest(self, bill, copy):
        """Protest an unpaid bill."""
        drawn = self.find_copy(bill, copy)
        check_returned(self, bill)
        if drawn.phase == PROTESTED:
            raise Protested("the bill is protested already")
        if self.day > drawn.due + PROTEST_DAYS:
            raise TooLate("the days for a protest are over")
        drawn.phase = PROTESTED
        self.deeds.append(("protest", bill, copy))

    def ask(self, bill, copy, place):
        """Ask the house at an open place for the coins and tell its name."""
        drawn = self.find_copy(bill, copy)
        check_returned(self, bill)
        if place not in open_places(self, bill):
            raise NotBound("not an open place")
        payer = drawn.places[place][0]
        self.check_payer(payer, drawn.amount)
        self.purses.pay(payer, drawn.keeper, drawn.amount)
        drawn.keeper = payer
        if place == 0:
            drawn.phase = PAID
        else:
            drawn.places = returned(drawn.places, place)
            drawn.blank = False
        self.deeds.append(("ask", bill, copy, place))
        return payer

    def honour(self, bill, copy, name, place):
        """Let a house pay a protested bill for the sake of an open place."""
        drawn = self.find_copy(bill, copy)
        self.check_house(name)
        check_returned(self, bill)
        if drawn.phase == UNPAID:
            raise NotProtested("the bill is not protested")
        places = open_places(self, bill)
        if place not in places:
            raise NotBound("not an open place")
        if name == drawn.keeper:
            raise Same(name)
        if name in [drawn.places[at][0] for at in places]:
            raise IsBound(name)
        self.check_payer(name, drawn.amount)
        self.purses.pay(name, drawn.keeper, drawn.amount)
        drawn.keeper = name
        drawn.places = honoured(drawn.places, place)
        drawn.blank = False
        self.deeds.append(("honour", bill, copy, name, place))

    def fair(self, names):
        """Hold a fair of these houses and tell the numbers of the bills that were paid."""
        # All is asked of the hall as it stands ahead of the fair.
        there = fair_bills(self, names)
        paid = paid_bills(self, names)
        changes = nets(self, names)
        for bill in there:
            drawn = self.find_bill(bill)
            drawn.phase = PAID if bill in paid else UNPAID
        # Only the nets are moved: one payment by one, a purse could fall below 0 on the way.
        for name, net in changes:
            if net < 0:
                self.purses.spend(name, -net)
            else:
                self.purses.fill(name, net)
        self.deeds.append(("fair", tuple(names)))
        return paid

    # Questions.

    def names(self):
        """Tell the names of all houses in order."""
        return self.purses.all_names()

    def coins(self, name):
        """Tell the coins in the purse of a house."""
        return self.purses.coins(name)

    def stands(self, name):
        """Tell whether a house stands open or is failed."""
        self.check_house(name)
        return "failed" if name in self.failed else "open"

    def can_pay(self, name, amount):
        """Tell whether a house stands open and has the coins."""
        return self.stands(name) == "open" and self.coins(name) >= amount

    def today(self):
        """Tell the day."""
        return self.day

    def many_bills(self):
        """Tell how many bills were drawn."""
        return len(self.bills)

    def paper(self, bill):
        """Tell drawer, drawee, payee, amount and due day of a bill."""
        return self.find_bill(bill).written()

    def state(self, bill):
        """Tell whether a bill is running, paid, unpaid or protested."""
        return self.find_bill(bill).phase

    def holder(self, bill):
        """Tell the house that holds a bill."""
        return self.find_bill(bill).keeper

    def copy_of(self, bill):
        """Tell the present copy of a bill."""
        return self.find_bill(bill).issue

    def in_blank(self, bill):
        """Tell whether the back of a bill is in blank."""
        return self.find_bill(bill).blank

    def row(self, bill):
        """Tell the pairs (house, bound) of a bill, place by place."""
        return list(self.find_bill(bill).places)

    def story(self):
        """Tell the deeds that were done, in order."""
        return list(self.deeds)

    def moment(self):
        """Tell how many deeds were done."""
        return len(self.deeds)

    def twin(self):
        """Tell a hall of its own that is alike in all that can be asked."""
        other = Hall()
        for name in self.names():
            other.purses.add_purse(name, self.coins(name))
        other.failed = list(self.failed)
        other.day = self.day
        other.bills = [drawn.doubled() for drawn in self.bills]
        other.deeds = list(self.deeds)
        return other
