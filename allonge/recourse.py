"""Recourse: who may be asked for the coins of a bill that came back, and who pays in the end."""

from allonge.bills import PAID, PROTESTED, RUNNING
from allonge.errors import Closed, NoHouse, NotPresented
from allonge.slips import askable, bearer_of, runs_of


def check_returned(hall, bill):
    """Refuse a bill that did not come back: a paid one and a running one."""
    state = hall.state(bill)
    if state == PAID:
        raise Closed("the bill is paid")
    if state == RUNNING:
        raise NotPresented("the bill is still running")


def open_places(hall, bill):
    """Tell the places that the holder may ask, rising."""
    state = hall.state(bill)
    if state in (PAID, RUNNING):
        return []
    return askable(hall.row(bill), hall.holder(bill), state == PROTESTED)


def able_houses(hall, bill):
    """Tell the houses that can pay the amount of the bill."""
    amount = hall.paper(bill)[3]
    return [name for name in hall.names() if hall.can_pay(name, amount)]


def runs(hall, bill):
    """Tell in order the lists of places that can be asked until nobody who can pay is left."""
    check_returned(hall, bill)
    able = able_houses(hall, bill)
    return runs_of(hall.row(bill), hall.holder(bill), able, hall.state(bill) == PROTESTED)


def bearer(hall, bill):
    """Tell the house that holds the bill, or has paid at place 0, behind any run."""
    check_returned(hall, bill)
    able = able_houses(hall, bill)
    return bearer_of(hall.row(bill), hall.holder(bill), able, hall.state(bill) == PROTESTED)


def liable(hall, name):
    """Tell in order the pairs (bill, place) of all open places at which the house stands."""
    if name not in hall.names():
        raise NoHouse(name)
    found = []
    for bill in range(1, hall.many_bills() + 1):
        row = hall.row(bill)
        for place in open_places(hall, bill):
            if row[place][0] == name:
                found.append((bill, place))
    return found
