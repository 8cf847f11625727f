"""Long stories of deeds, done by a hall and by the second saying of the document in model.py."""

import collections
import unittest

from allonge import fairs, recourse
from allonge.errors import HallError
from allonge.hall import Hall
from halls import METHODS, HallCase, told
from model import Model, Refused
from stories import REFUSALS, outcome, tries


class ModelTest(HallCase):
    def assert_alike(self, hall, model):
        self.assertEqual(hall.story(), model.story)
        self.assertEqual(hall.moment(), len(model.story))
        self.assertEqual(hall.today(), model.day)
        self.assertEqual([(name, hall.coins(name), hall.stands(name)) for name in hall.names()],
                         [(name, model.purse[name], "open" if model.standing[name] else "failed")
                          for name in sorted(model.purse)])
        self.assertEqual(hall.many_bills(), len(model.bills))
        for number, bill in enumerate(model.bills, 1):
            self.assertEqual(hall.paper(number), bill["paper"])
            self.assert_bill(hall, number, bill["state"], bill["holder"], bill["row"], bill["blank"])
            self.assertEqual(hall.copy_of(number), bill["copy"])
            self.assertEqual(recourse.open_places(hall, number), model.open_places(number))

    def assert_fair_alike(self, hall, model, names):
        for question in ("debts", "crowd", "nets"):
            asked = outcome(lambda: getattr(fairs, question)(hall, names), HallError, lambda e: e.__class__.__name__)
            self.assertEqual(asked, outcome(lambda: getattr(model, question)(names), Refused, str), (question, names))

    def one_story(self, seed, many, seen):
        hall, model = Hall(), Model()
        for word, parts in tries(seed, many, hall):
            if word == "fair":
                self.assert_fair_alike(hall, model, parts[0])
            before = told(hall)
            done = outcome(lambda: getattr(hall, METHODS[word])(*parts), HallError, lambda e: e.__class__.__name__)
            self.assertEqual(done, outcome(lambda: model.do(word, *parts), Refused, str), (seed, word, parts))
            seen[word, done[1] if done[0] == "refused" else "done"] += 1
            if word in ("ask", "honour") and done[0] == "told":
                seen[word, min(parts[-1], 2)] += 1
            if done[0] == "refused":
                self.assertEqual(told(hall), before, (seed, word, parts))
            self.assert_alike(hall, model)
        self.assertEqual(told(hall.twin()), told(hall))

    def test_long_stories(self):
        seen = collections.Counter()
        for seed in range(100):
            self.one_story(seed, 140, seen)
        wanted = [(word, name) for word, names in REFUSALS.items() for name in ["done", *names.split()]]
        # Six houses begin each story, and too few bills follow for a hall to be full of them.
        rare = [("draw", "Full"), ("sign", "Full"), ("blank", "Full"), ("house", "Full")]
        wanted += [(word, place) for word in ("ask", "honour") for place in (0, 1, 2)]
        missing = [pair for pair in wanted if not seen[pair] and pair not in rare]
        self.assertEqual(missing, [])


if __name__ == "__main__":
    unittest.main()
