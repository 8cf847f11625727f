"""What the tests of a hall share: halls to begin with, all that can be asked, and refusals."""

import unittest

from allonge import errors, fairs, recourse
from allonge.hall import Hall

MOST = 1000000000000
HUGE = 10 ** 30 - 1
# The words of the story and the methods that they stand for (point 17).
METHODS = {
    "house": "house", "in": "put_in", "out": "take_out", "fail": "fail", "mend": "mend", "days": "pass_days",
    "draw": "draw", "accept": "accept", "sign": "sign", "blank": "sign_blank", "hand": "hand", "lose": "lose",
    "present": "present", "protest": "protest", "ask": "ask", "honour": "honour", "fair": "fair",
}
FIVE = {"anna": 100, "bert": 100, "carl": 100, "dora": 100, "emil": 100}


def hall_of(**coins):
    """A hall with these houses."""
    hall = Hall()
    for name, amount in coins.items():
        hall.house(name, amount)
    return hall


def five():
    """A hall with five houses of 100 coins each."""
    return hall_of(**FIVE)


def signed(hall, signers, amount=10, accepted=True, drawer_bound=True, drawer="bert", drawee="anna", payee="carl",
           due=None):
    """Draw a bill and sign it on; signers are pairs (the next holder, bound). Tells the number."""
    due = hall.today() if due is None else due
    bill = hall.draw(drawer, drawee, payee, amount, due, drawer_bound)
    if accepted:
        hall.accept(bill, 1)
    for to, bound in signers:
        hall.sign(bill, 1, to, bound)
    return bill


def unpaid(hall, bill):
    """Present the bill while its drawee is failed."""
    drawee = hall.paper(bill)[1]
    hall.fail(drawee)
    if hall.present(bill, hall.copy_of(bill)):
        raise AssertionError("the bill was paid")
    hall.mend(drawee)


def protested(hall, bill):
    """Present the bill while its drawee is failed, and protest it."""
    unpaid(hall, bill)
    hall.protest(bill, hall.copy_of(bill))


def chain(amount=10, coins=100):
    """A protested bill of anna, drawn by bert, signed on by carl, dora and emil, held by fred."""
    hall = hall_of(anna=coins, bert=coins, carl=coins, dora=coins, emil=coins, fred=coins, gret=coins)
    bill = signed(hall, [("dora", True), ("emil", True), ("fred", True)], amount)
    protested(hall, bill)
    return hall, bill


def answer(question, *parts):
    """What a question tells, or the name of its refusal."""
    try:
        return question(*parts)
    except errors.HallError as refusal:
        return refusal.__class__.__name__


def bill_told(hall, bill):
    asked = [hall.paper, hall.state, hall.holder, hall.copy_of, hall.in_blank, hall.row]
    of_bill = [answer(question, bill) for question in asked]
    of_recourse = [recourse.open_places, recourse.runs, recourse.bearer]
    return of_bill + [answer(question, hall, bill) for question in of_recourse]


def told(hall):
    """All that can be asked of a hall, as one value."""
    names = hall.names()
    fair = [question(hall, names) for question in (fairs.debts, fairs.crowd, fairs.nets, fairs.plan)]
    purses = [(name, hall.coins(name), hall.stands(name)) for name in names]
    can_pay = [[hall.can_pay(name, amount) for amount in (-1, 0, 1, 10, 100, MOST)] for name in names]
    liable = [recourse.liable(hall, name) for name in names]
    bills = [bill_told(hall, bill) for bill in range(hall.many_bills() + 2)]
    days = [hall.today(), hall.many_bills(), hall.moment(), hall.story()]
    return purses, can_pay, liable, fair, bills, days


def purses_of(hall):
    """The purses by name."""
    return {name: hall.coins(name) for name in hall.names()}


class HallCase(unittest.TestCase):
    maxDiff = None

    def assert_refused(self, error, hall, word, *parts):
        """The deed is refused just so, by the hall and by its twin, and nothing changes."""
        before, twin = told(hall), hall.twin()
        for one in (hall, twin):
            with self.assertRaises(errors.HallError, msg=(word, parts)) as caught:
                getattr(one, METHODS[word])(*parts)
            self.assertIs(caught.exception.__class__, error, (word, parts))
            self.assertEqual(told(one), before, (word, parts))

    def assert_question_refused(self, error, question, *parts):
        with self.assertRaises(errors.HallError, msg=parts) as caught:
            question(*parts)
        self.assertIs(caught.exception.__class__, error, parts)

    def assert_none(self, hall, word, *parts):
        """The deed is done, gives back nothing and stands at the end of the story."""
        moment = hall.moment()
        self.assertIsNone(getattr(hall, METHODS[word])(*parts))
        self.assertEqual(hall.moment(), moment + 1)
        self.assertEqual(hall.story()[moment:], [(word, *parts)])

    def assert_bill(self, hall, bill, state, holder, row, blank=False):
        self.assertEqual(hall.state(bill), state)
        self.assertEqual(hall.holder(bill), holder)
        self.assertEqual(hall.row(bill), row)
        self.assertIs(hall.in_blank(bill), blank)
