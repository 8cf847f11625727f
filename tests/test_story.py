"""The story, the moment and the twin of a hall (points 1 and 17)."""

import unittest

from allonge.errors import NoHouse
from allonge.hall import Hall
from halls import METHODS, HallCase, told
from stories import DEEDS, do, hall_behind


class StoryTest(HallCase):
    def test_each_of_the_seventeen_words(self):
        self.assertEqual({deed[0] for deed, tells in DEEDS}, set(METHODS))
        self.assertEqual(len(METHODS), 17)
        hall, story = Hall(), []
        for deed, tells in DEEDS:
            self.assertEqual(hall.moment(), len(story))
            answer = do(hall, deed)
            self.assertEqual((answer, type(answer)), (tells, type(tells)), deed)
            story.append(deed)
            self.assertEqual(hall.story(), story)
            self.assertEqual(type(hall.story()[-1]), tuple)
        self.assertEqual(hall.moment(), len(DEEDS))
        self.assertIs(type(hall.story()[-2][1]), tuple)

    def test_what_was_handed_in_keeps_its_kind(self):
        hall = hall_behind(len(DEEDS))
        for deed in hall.story():
            for part, wanted in zip(deed, DEEDS[hall.story().index(deed)][0]):
                self.assertIs(type(part), type(wanted), deed)

    def test_a_refused_deed_is_not_told(self):
        hall = hall_behind(len(DEEDS))
        story = hall.story()
        for deed in (("in", "zora", 1), ("days", 0), ("accept", 1, 1), ("sign", 9, 1, "anna", True), ("lose", 1),
                     ("present", 2, 1), ("protest", 4, 1), ("ask", 1, 1, 0), ("honour", 3, 1, "bert", 0),
                     ("fair", ("anna", "anna")), ("house", "anna", 1), ("house", "Anna", 1), ("mend", "anna"),
                     ("draw", "anna", "bert", "carl", 1, 1, True), ("hand", 2, 2, "carl"), ("fail", "zora"),
                     ("out", "anna", 0), ("blank", 1, 1, "anna", True)):
            with self.assertRaises(ValueError):
                do(hall, deed)
            self.assertEqual((hall.story(), hall.moment()), (story, len(story)))

    def test_a_told_story_that_is_changed_changes_nothing(self):
        hall = hall_behind(len(DEEDS))
        before, story = told(hall), hall.story()
        story.append(("days", 1))
        story[0] = None
        del story[3:9]
        self.assertEqual(told(hall), before)
        self.assertEqual(hall.moment(), len(DEEDS))

    def test_a_told_story_does_not_follow_later_deeds(self):
        hall = hall_behind(5)
        story = hall.story()
        hall.pass_days(1)
        self.assertEqual(story, [deed for deed, tells in DEEDS[:5]])

    def test_questions_are_no_deeds(self):
        hall = hall_behind(len(DEEDS))
        told(hall)
        hall.twin()
        self.assertEqual(hall.moment(), len(DEEDS))


class TwinTest(HallCase):
    def test_alike_at_each_moment(self):
        for many in range(len(DEEDS) + 1):
            hall = hall_behind(many)
            twin = hall.twin()
            self.assertIs(type(twin), Hall)
            self.assertIsNot(twin, hall)
            self.assertEqual(told(twin), told(hall))

    def test_each_goes_on_without_the_other(self):
        ends = told(hall_behind(len(DEEDS)))
        for many in range(len(DEEDS)):
            hall = hall_behind(many)
            before, twin = told(hall), hall.twin()
            for deed, tells in DEEDS[many:]:
                self.assertEqual(do(hall, deed), tells)
                self.assertEqual(told(twin), before, deed)
            self.assertEqual(told(hall), ends)
            other = twin.twin()
            for deed, tells in DEEDS[many:]:
                self.assertEqual(do(twin, deed), tells)
                self.assertEqual(told(other), before, deed)
            self.assertEqual(told(twin), ends)
            self.assertEqual(told(hall), ends)

    def test_a_house_of_the_one_is_none_of_the_other(self):
        hall = hall_behind(4)
        twin = hall.twin()
        twin.house("emil", 1)
        hall.house("fred", 1)
        self.assert_refused(NoHouse, hall, "in", "emil", 1)
        self.assert_refused(NoHouse, twin, "in", "fred", 1)

    def test_a_hall_whose_deeds_are_done_again_is_alike(self):
        hall, other = hall_behind(len(DEEDS)), Hall()
        for deed in hall.story():
            do(other, deed)
        self.assertEqual(told(other), told(hall))


if __name__ == "__main__":
    unittest.main()
