"""The document's points 18 and 20 said a second time, over the model of halls in model.py.

What a line writes is told by the patterns of re, not word by word as in the program.
"""

import re

from model import Model, Refused

NAME = "([a-z]{1,8})"
NUMBER = "(0|[1-9][0-9]{0,29})"
BOUND = "(bound|free)"
PATTERNS = {
    "house": [NAME, NUMBER], "in": [NAME, NUMBER], "out": [NAME, NUMBER], "fail": [NAME], "mend": [NAME],
    "days": [NUMBER], "draw": [NAME, NAME, NAME, NUMBER, NUMBER, BOUND], "accept": [NUMBER, NUMBER],
    "sign": [NUMBER, NUMBER, NAME, BOUND], "blank": [NUMBER, NUMBER, NAME, BOUND], "hand": [NUMBER, NUMBER, NAME],
    "lose": [NUMBER], "present": [NUMBER, NUMBER], "protest": [NUMBER, NUMBER], "ask": [NUMBER, NUMBER, NUMBER],
    "honour": [NUMBER, NUMBER, NAME, NUMBER],
}
READERS = {NAME: str, NUMBER: int, BOUND: "bound".__eq__}
QUESTIONS = {
    "purse": NAME, "stands": NAME, "state": NUMBER, "holder": NUMBER, "bearer": NUMBER, "open": NUMBER, "row": NUMBER,
}


def deed_of(line):
    """The deed that the line writes, or None."""
    if re.fullmatch("fair( [a-z]{1,8})*", line):
        return "fair", tuple(line.split(" ")[1:])
    for word, patterns in PATTERNS.items():
        found = re.fullmatch(" ".join([word, *patterns]), line)
        if found:
            return word, *[READERS[pattern](text) for pattern, text in zip(patterns, found.groups())]
    return None


class ModelDesk:
    def __init__(self):
        self.model = Model()

    def say(self, line):
        try:
            return self.answer(line)
        except Refused as refusal:
            return f"no {refusal}"

    def answer(self, line):
        deed = deed_of(line)
        if deed is not None:
            return self.done(*deed)
        if line == "today":
            return str(self.model.day)
        for word, pattern in QUESTIONS.items():
            found = re.fullmatch(f"{word} {pattern}", line)
            if found:
                return getattr(self, "tell_" + word)(READERS[pattern](found.group(1)))
        raise Refused("BadLine")

    def done(self, word, *parts):
        if word == "fair":
            return " ".join(["paid", *map(str, self.model.do("fair", list(*parts)))])
        told = self.model.do(word, *parts)
        texts = {"draw": f"bill {told}", "lose": f"copy {told}", "present": "paid" if told else "unpaid",
                 "ask": f"{told} pays"}
        return texts.get(word, "done")

    def tell_purse(self, name):
        self.model.ask_all(self.model.no_house(name))
        return str(self.model.purse[name])

    def tell_stands(self, name):
        self.model.ask_all(self.model.no_house(name))
        return "open" if self.model.standing[name] else "failed"

    def tell_state(self, number):
        return self.model.bill(number)["state"]

    def tell_holder(self, number):
        return self.model.bill(number)["holder"]

    def tell_bearer(self, number):
        return self.model.bearer(number)

    def tell_open(self, number):
        return " ".join(map(str, self.model.open_places(number))) or "none"

    def tell_row(self, number):
        return " ".join(house + "!" * bound for house, bound in self.model.bill(number)["row"])
