"""The whole program by long stories: at desks and in halls, by turns, all questions behind each deed."""

import collections
import random
import unittest

from allonge import errors, fairs, recourse
from allonge.desk import Desk
from allonge.hall import Hall
from allonge.pages import opened, written
from allonge.past import hall_at
from halls import METHODS, HallCase, told
from model_desk import ModelDesk
from stories import NAMES, REFUSALS, WEIGHTS, grown, some_parts, tries

SPOILT = ["", " ", "today ", " today", "purse", "row", "row 01", "open -1", "bearer " + "1" * 31, "purse Anna", "days",
          "days 1\n", "fair  anna", "fair anna ", "no", "done", "house Anna 1", "sign 1 1 anna", "lose 1 1"]


def line_of(word, parts):
    """The line of a deed, also of such as can't be written."""
    texts = parts[0] if word == "fair" else parts
    return " ".join([word, *[{True: "bound", False: "free"}[text] if isinstance(text, bool) else str(text)
                             for text in texts]])


def questions(many):
    """All questions that a desk answers, of all bills and of one number below and behind them."""
    yield "today"
    for name in (*NAMES, "g", "zora"):
        yield f"purse {name}"
        yield f"stands {name}"
    for bill in range(many + 2):
        for question in ("state", "holder", "bearer", "open", "row"):
            yield f"{question} {bill}"


class DeskStoryTest(HallCase):
    def assert_alike(self, desk, model):
        for line in questions(len(model.model.bills)):
            self.assertEqual(desk.say(line), model.say(line), line)

    def begun(self, chance):
        desk, model = Desk(), ModelDesk()
        for name in NAMES:
            line = f"house {name} {chance.choice((0, 10, 25, 60))}"
            self.assertEqual((desk.say(line), model.say(line)), ("done", "done"))
        return desk, model

    def one_story(self, seed, many, seen):
        chance = random.Random(seed)
        desks = [self.begun(chance), self.begun(chance)]
        for word in chance.choices(list(WEIGHTS), list(WEIGHTS.values()), k=many):
            at = chance.randrange(2)
            desk, model = desks[at]
            line = line_of(word, some_parts(chance, desk.floor(), word))
            if chance.random() < 0.1:
                line = chance.choice((*SPOILT, line + " ", line + "\n", line.replace(" ", "  ", 1) + "!"))
            answer, story = desk.say(line), len(model.model.story)
            self.assertEqual(answer, model.say(line), (seed, line))
            seen[word, answer if answer.startswith("no ") else "done"] += 1
            if answer.startswith("no "):
                self.assertEqual(len(model.model.story), story)
            for one, other in desks:
                self.assert_alike(one, other)
                self.assertEqual(one.floor().story(), other.model.story)
        for desk, model in desks:
            self.assertEqual(told(opened(written(desk.floor()))), told(desk.floor()))

    def test_two_desks_by_turns(self):
        seen = collections.Counter()
        for seed in range(24):
            self.one_story(seed, 260, seen)
        self.assertEqual([word for word in METHODS if not seen[word, "done"]], [])
        wanted = {(word, name) for word, names in REFUSALS.items() for name in names.split()}
        # Too few bills and signatures come together at one desk for a hall or a row to be full.
        wanted -= {("house", "BadName"), *[(word, "Full") for word in ("house", "draw", "sign", "blank")]}
        self.assertEqual(sorted(pair for pair in wanted if not seen[pair[0], "no " + pair[1]]), [])


class HallStoryTest(HallCase):
    def test_two_halls_by_turns(self):
        for seed in range(6):
            chance = random.Random(seed)
            halls = [Hall(), Hall()]
            stories = [tries(10 * seed + at, 150, hall) for at, hall in enumerate(halls)]
            for turn in range(260):
                at = chance.randrange(2)
                word, parts = next(stories[at], (None, None))
                if word is None:
                    continue
                before = [told(hall) for hall in halls]
                try:
                    getattr(halls[at], METHODS[word])(*parts)
                except errors.HallError:
                    self.assertEqual(told(halls[at]), before[at], (seed, word, parts))
                self.assertEqual(told(halls[1 - at]), before[1 - at], (seed, word, parts))

    def test_halls_of_one_story_go_on_alike(self):
        """The hall itself, its twin, the hall at its last moment and the one that was read."""
        for seed in range(6):
            hall = grown(seed, 200)
            halls = [hall, hall.twin(), hall_at(hall, hall.moment()), opened(written(hall))]
            chance = random.Random(seed)
            for word in chance.choices(list(WEIGHTS), list(WEIGHTS.values()), k=60):
                parts = some_parts(chance, hall, word)
                answers = []
                for at, one in enumerate(halls):
                    rest = [told(other) for other in halls[at + 1:]]
                    try:
                        answers.append(getattr(one, METHODS[word])(*parts))
                    except errors.HallError as refusal:
                        answers.append(refusal.word)
                    self.assertEqual([told(other) for other in halls[at + 1:]], rest)
                self.assertEqual(answers, answers[:1] * 4, (seed, word, parts))
                self.assertEqual([told(one) for one in halls], [told(hall)] * 4)

    def test_each_told_list_is_a_new_one(self):
        for seed in range(4):
            hall = grown(seed, 420)
            before, names, bills = told(hall), hall.names(), range(1, hall.many_bills() + 1)
            asked = [hall.names, hall.story]
            asked += [lambda bill=bill: hall.row(bill) for bill in bills]
            asked += [lambda bill=bill: recourse.open_places(hall, bill) for bill in bills]
            asked += [lambda name=name: recourse.liable(hall, name) for name in names]
            asked += [lambda ask=ask: ask(hall, names) for ask in (fairs.debts, fairs.crowd, fairs.nets, fairs.plan)]
            asked += [lambda bill=bill: recourse.runs(hall, bill) for bill in bills
                      if hall.state(bill) in ("unpaid", "protested")]
            for ask in asked:
                told_list, again = ask(), ask()
                self.assertIsInstance(told_list, list)
                self.assertIsNot(told_list, again)
                if told_list and isinstance(told_list[0], list):
                    told_list[0].append(99)
                told_list.append(None)
                self.assertEqual(ask(), again)
            self.assertEqual(names, hall.names())
            self.assertEqual(told(hall), before)

    def test_names_that_are_handed_in_are_not_kept(self):
        hall = grown(2, 420)
        for ask in (fairs.debts, fairs.crowd, fairs.nets, fairs.plan, Hall.fair):
            names = ["carl", "anna", "bert"]
            ask(hall, names)
            self.assertEqual(names, ["carl", "anna", "bert"])
            before = told(hall)
            names.clear()
            self.assertEqual(told(hall), before)
        self.assertEqual(hall.story()[-1], ("fair", ("carl", "anna", "bert")))


if __name__ == "__main__":
    unittest.main()
