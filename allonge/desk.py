"""A desk: a hall of its own, to which deeds and questions are said as lines."""

from allonge.errors import HallError
from allonge.hall import Hall
from allonge.pages import read_deed, read_part
from allonge.past import do_deed
from allonge.recourse import bearer, open_places


def places_line(places):
    """Tell the places one behind the other."""
    return " ".join([str(place) for place in places]) if places else "none"


def row_line(row):
    """Tell the places of a row as words, with a sign where the house is bound."""
    return " ".join([house + "!" if bound else house for house, bound in row])


def done_line(deed, told):
    """Tell the answer to a deed that was done and told this."""
    word = deed[0]
    if word == "draw":
        return f"bill {told}"
    if word == "lose":
        return f"copy {told}"
    if word == "present":
        return "paid" if told else "unpaid"
    if word == "ask":
        return f"{told} pays"
    if word == "fair":
        return " ".join(["paid"] + [str(bill) for bill in told])
    return "done"


def answer_line(hall, line):
    """Tell the answer to a question or to a written deed, which is done in the hall."""
    match line.split(" "):
        case ["purse", name]:
            return str(hall.coins(read_part("name", name)))
        case ["stands", name]:
            return hall.stands(read_part("name", name))
        case ["state", bill]:
            return hall.state(read_part("number", bill))
        case ["holder", bill]:
            return hall.holder(read_part("number", bill))
        case ["bearer", bill]:
            return bearer(hall, read_part("number", bill))
        case ["open", bill]:
            return places_line(open_places(hall, read_part("number", bill)))
        case ["row", bill]:
            return row_line(hall.row(read_part("number", bill)))
        case ["today"]:
            return str(hall.today())
    deed = read_deed(line)
    return done_line(deed, do_deed(hall, deed))


class Desk:
    """A desk with a new hall."""

    def __init__(self):
        self.hall = Hall()

    def say(self, line):
        """Tell the answer to a line."""
        try:
            return answer_line(self.hall, line)
        except HallError as why:
            return "no " + why.word

    def floor(self):
        """Tell a twin of the hall."""
        return self.hall.twin()
