"""Fairs: which bills some houses can pay together, and with how few payments.

A debt and a payment are written alike, as (payer, taker, coins).
"""

from allonge.bills import RUNNING
from allonge.errors import NoHouse, Twice


def check_names(hall, names):
    """Refuse names that make no fair."""
    houses = hall.names()
    for name in names:
        if name not in houses:
            raise NoHouse(name)
    for at, name in enumerate(names):
        if name in names[:at]:
            raise Twice(name)


def stands_there(hall, names, bill):
    """Tell whether the bill stands at the fair."""
    drawee, accepted = hall.row(bill)[0]
    due = hall.paper(bill)[4]
    if hall.state(bill) != RUNNING or not accepted or due > hall.today():
        return False
    return drawee in names and hall.holder(bill) in names


def fair_bills(hall, names):
    """Tell the numbers of the bills that stand at the fair, rising."""
    check_names(hall, names)
    return [bill for bill in range(1, hall.many_bills() + 1) if stands_there(hall, names, bill)]


def debts(hall, names):
    """Tell in order who owes whom how many coins at the fair."""
    owed = {}
    for bill in fair_bills(hall, names):
        drawee, holder, amount = hall.row(bill)[0][0], hall.holder(bill), hall.paper(bill)[3]
        if drawee != holder:
            pair = (drawee, holder)
            owed[pair] = owed.get(pair, 0) + amount
    return sorted([(payer, taker, coins) for (payer, taker), coins in owed.items()])


def paid_by(payments, payer):
    """Tell the coins that the house pays by these payments."""
    return sum([coins for giver, taker, coins in payments if giver == payer])


def got_by(payments, taker):
    """Tell the coins that the house gets by these payments."""
    return sum([coins for payer, getter, coins in payments if getter == taker])


def payments_of(owed, payers):
    """Tell the debts of just these payers."""
    return [debt for debt in owed if debt[0] in payers]


def crowd(hall, names):
    """Tell in order the greatest crowd of the fair that pays itself."""
    owed = debts(hall, names)
    left = sorted(names)
    while True:
        coming = payments_of(owed, left)
        # Owed more than it owes, a house needs less than 0 coins, but it still has to stand open.
        able = [name for name in left if hall.can_pay(name, paid_by(owed, name) - got_by(coming, name))]
        if able == left:
            return left
        left = able


def nets(hall, names):
    """Tell in order for each house of the fair what it gets there less what it pays."""
    payments = payments_of(debts(hall, names), crowd(hall, names))
    return [(name, got_by(payments, name) - paid_by(payments, name)) for name in sorted(names)]


def paid_bills(hall, names):
    """Tell the numbers of the bills that the fair pays, rising."""
    payers = crowd(hall, names)
    return [bill for bill in fair_bills(hall, names)
            if hall.row(bill)[0][0] in payers or hall.row(bill)[0][0] == hall.holder(bill)]


def plan(hall, names):
    """Tell payments by which all nets of the fair come about."""
    changes = nets(hall, names)
    payers = [(name, -net) for name, net in changes if net < 0]
    takers = [(name, net) for name, net in changes if net > 0]
    payments = []
    # Each payment settles one of its two houses at least, the last one both: so they are
    # fewer than the houses. All nets together are 0: so both lists end at once.
    while payers:
        payer, owes = payers.pop(0)
        taker, gets = takers.pop(0)
        coins = min(owes, gets)
        payments.append((payer, taker, coins))
        if owes > coins:
            payers.insert(0, (payer, owes - coins))
        if gets > coins:
            takers.insert(0, (taker, gets - coins))
    return payments
