"""The past of a hall: deeds done as a story tells them, and the hall of an earlier moment."""

from allonge.errors import NoMoment
from allonge.hall import Hall


def do_deed(hall, deed):
    """Do a deed told as in a story, and tell what its method tells."""
    match deed:
        case ("house", name, coins):
            return hall.house(name, coins)
        case ("in", name, coins):
            return hall.put_in(name, coins)
        case ("out", name, coins):
            return hall.take_out(name, coins)
        case ("fail", name):
            return hall.fail(name)
        case ("mend", name):
            return hall.mend(name)
        case ("days", many):
            return hall.pass_days(many)
        case ("draw", drawer, drawee, payee, amount, due, bound):
            return hall.draw(drawer, drawee, payee, amount, due, bound)
        case ("accept", bill, copy):
            return hall.accept(bill, copy)
        case ("sign", bill, copy, to, bound):
            return hall.sign(bill, copy, to, bound)
        case ("blank", bill, copy, to, bound):
            return hall.sign_blank(bill, copy, to, bound)
        case ("hand", bill, copy, to):
            return hall.hand(bill, copy, to)
        case ("lose", bill):
            return hall.lose(bill)
        case ("present", bill, copy):
            return hall.present(bill, copy)
        case ("protest", bill, copy):
            return hall.protest(bill, copy)
        case ("ask", bill, copy, place):
            return hall.ask(bill, copy, place)
        case ("honour", bill, copy, name, place):
            return hall.honour(bill, copy, name, place)
        case ("fair", names):
            return hall.fair(list(names))


def hall_at(hall, moment):
    """Tell a hall of its own in which the first deeds of the hall were done, as many as the moment says."""
    if not 0 <= moment <= hall.moment():
        raise NoMoment("the story has no such moment")
    other = Hall()
    for deed in hall.story()[:moment]:
        do_deed(other, deed)
    return other
