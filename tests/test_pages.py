"""Deeds and stories as texts (points 18 and 19)."""

import inspect
import unittest

from allonge import errors, pages
from allonge.errors import BadLine
from allonge.hall import Hall
from allonge.pages import deed_line, opened, read_deed, written
from allonge.past import do_deed, hall_at
from halls import HUGE, METHODS, HallCase, told
from lines import ANSWERS, FORMS, REFUSED, STRANGE
from model_desk import deed_of
from stories import DEEDS, grown, hall_behind

LINES = [line for line, answer in ANSWERS]
WORDS = ["ask", "bound", "in", "fair", "free", "none", "house", "a", "paid", "abcdefgh", "zzzzzzzz"]
NUMBERS = [0, 1, 7, 9, 10, 100, 10 ** 12, 10 ** 29, HUGE]


def kinds(deed):
    """A deed with the kinds of its parts: 1 and True are not the same."""
    return [(type(part), kinds(part) if isinstance(part, tuple) else part) for part in deed]


class PagesCase(HallCase):
    def assert_there_and_back(self, deed, line):
        self.assertEqual(deed_line(deed), line)
        self.assertIs(type(read_deed(line)), tuple)
        self.assertEqual(kinds(read_deed(line)), kinds(deed), line)

    def assert_bad_line(self, at, function, text):
        with self.assertRaises(errors.HallError, msg=text) as caught:
            function(text)
        self.assertIs(caught.exception.__class__, BadLine, text)
        self.assertEqual((type(caught.exception.at), caught.exception.at), (int, at), text)

    def assert_bad(self, line):
        self.assert_bad_line(1, read_deed, line)

    def assert_read_as_the_point_says(self, line):
        deed = deed_of(line)
        if deed is None:
            self.assert_bad(line)
        else:
            self.assert_there_and_back(deed, line)


class InterfaceTest(unittest.TestCase):
    def test_names_and_arguments(self):
        parts = {"deed_line": ["deed"], "read_deed": ["line"], "written": ["hall"], "opened": ["text"]}
        for name, wanted in parts.items():
            function = getattr(pages, name)
            self.assertEqual(function.__module__, "allonge.pages")
            self.assertEqual(list(inspect.signature(function).parameters), wanted)


class DeedLineTest(PagesCase):
    def test_each_word_there_and_back(self):
        for (deed, tells), line in zip(DEEDS, LINES, strict=True):
            self.assert_there_and_back(deed, line)
        self.assertEqual({line.split(" ")[0] for line in LINES}, set(METHODS))

    def test_each_form_once(self):
        self.assertEqual({deed[0] for deed in FORMS}, set(METHODS))
        self.assert_there_and_back(FORMS[0], "house anna 5")
        self.assert_there_and_back(FORMS[6], "draw anna bert carl 5 6 bound")
        self.assert_there_and_back(FORMS[7], "draw anna bert carl 5 6 free")
        self.assert_there_and_back(FORMS[9], "sign 5 6 anna bound")
        self.assert_there_and_back(FORMS[12], "blank 5 6 anna free")
        self.assert_there_and_back(FORMS[18], "honour 5 6 anna 7")

    def test_a_fair_of_no_one_and_many_houses(self):
        self.assert_there_and_back(("fair", ()), "fair")
        self.assert_there_and_back(("fair", ("a",)), "fair a")
        self.assert_there_and_back(("fair", ("fair", "fair")), "fair fair fair")
        names = tuple("anna bert carl dora emil fred gret hans ida".split())
        self.assert_there_and_back(("fair", names), "fair anna bert carl dora emil fred gret hans ida")
        self.assert_there_and_back(("fair", names * 3), " ".join(["fair", *names, *names, *names]))

    def test_names_that_are_words_of_the_page_at_each_place(self):
        for deed in FORMS:
            for at, part in enumerate(deed):
                if at and isinstance(part, str):
                    for word in WORDS:
                        self.assert_word_at(deed, at, word, word)
        for word in WORDS:
            self.assert_there_and_back(("fair", (word, "anna", word)), f"fair {word} anna {word}")

    def test_numbers_at_each_place(self):
        for deed in FORMS:
            for at, part in enumerate(deed):
                if type(part) is int:
                    for number in NUMBERS:
                        self.assert_word_at(deed, at, number, str(number))

    def assert_word_at(self, deed, at, part, word):
        """With another part at this place, the line has another word there."""
        words = deed_line(deed).split(" ")
        words[at] = word
        self.assert_there_and_back((*deed[:at], part, *deed[at + 1:]), " ".join(words))

    def test_thirty_figures(self):
        self.assert_there_and_back(("days", HUGE), "days " + "9" * 30)
        self.assert_there_and_back(("days", 10 ** 29), "days 1" + "0" * 29)
        self.assert_there_and_back(("days", int("123456789012345678901234567890")),
                                   "days 123456789012345678901234567890")

    def test_one_is_no_bound_and_nought_no_free(self):
        self.assertEqual(deed_line(("sign", 1, 0, "anna", True)), "sign 1 0 anna bound")
        self.assertEqual(deed_line(("ask", 0, 1, 0)), "ask 0 1 0")
        self.assertEqual(kinds(read_deed("sign 1 0 anna free")), kinds(("sign", 1, 0, "anna", False)))

    def test_nothing_else_is_asked_of_the_parts(self):
        for deed in (("house", "a", HUGE), ("in", "zora", 0), ("days", 0), ("accept", 0, 0), ("ask", 1, 9, HUGE),
                     ("draw", "a", "a", "a", 0, HUGE, False), ("fair", ("zora", "zora", "a")), ("lose", 0)):
            self.assertEqual(read_deed(deed_line(deed)), deed)

    def test_the_deed_that_is_handed_in_stays(self):
        for deed in FORMS:
            before = kinds(deed)
            deed_line(deed)
            self.assertEqual(kinds(deed), before)


class BadLineTest(PagesCase):
    def test_no_word_of_a_deed(self):
        for line in ("", " ", "\n", "a", "houses anna 5", "House anna 5", "HOUSE anna 5", "hous anna 5", "anna 5",
                     "put_in anna 5", "take_out anna 5", "pass_days 5", "sign_blank 1 1 anna bound", "put anna 5",
                     "purse anna", "today", "row 1", "state 1", "open 1", "stands anna", "bound", "free", "5",
                     "fairs", "fairanna", "Fair anna", "day 5", "draws a a a 1 1 free", "none", "done", "paid 1"):
            self.assert_bad(line)

    def test_a_word_left_out(self):
        for deed in FORMS:
            words = deed_line(deed).split(" ")
            for at in range(len(words)):
                self.assert_read_as_the_point_says(" ".join(words[:at] + words[at + 1:]))
                if deed[0] != "fair":
                    self.assert_bad(" ".join(words[:at] + words[at + 1:]))

    def test_a_word_doubled(self):
        for deed in FORMS:
            words = deed_line(deed).split(" ")
            for at in range(len(words)):
                self.assert_read_as_the_point_says(" ".join(words[:at + 1] + words[at:]))
                if deed[0] != "fair":
                    self.assert_bad(" ".join(words[:at + 1] + words[at:]))

    def test_a_word_exchanged(self):
        others = ["anna", "5", "0", "bound", "free", "house", "fair", "ask", "lose", "draw", "", "Anna", "05", "none"]
        for deed in FORMS:
            words = deed_line(deed).split(" ")
            for at in range(len(words)):
                for other in others:
                    self.assert_read_as_the_point_says(" ".join(words[:at] + [other] + words[at + 1:]))
                for behind in range(at + 1, len(words)):
                    turned = list(words)
                    turned[at], turned[behind] = words[behind], words[at]
                    self.assert_read_as_the_point_says(" ".join(turned))

    def test_parts_of_another_kind(self):
        for line in ("house 5 anna", "house anna bert", "house 5 5", "house anna bound", "days anna", "days free",
                     "fail 5", "lose anna", "sign 1 1 anna 1", "sign 1 1 anna anna", "sign 1 1 5 bound",
                     "sign 1 1 bound anna", "draw a b c 1 1 True", "draw a b c 1 1 Bound", "draw a b c 1 1 bounds",
                     "draw a b 1 c 1 bound", "ask 1 1 anna", "honour 1 1 1 anna", "honour 1 1 anna bound", "fair 5",
                     "fair anna 5", "fair 0", "sign 1 1 anna boun", "sign 1 1 anna FREE", "sign 1 1 anna True"):
            self.assert_bad(line)

    def test_numbers_that_are_written_otherwise(self):
        bad = ["", "00", "01", "007", "00000", "+1", "-1", "-0", "+0", "1.0", "1e3", "0x1", "1_0", "1,0", "1 0", "one",
               "a", "1a", "a1", "1!", "1\n", "\n1", "1\t", "\u0661", "\xb2", "\uff11", "1" * 31, "9" * 31,
               "1" + "0" * 30, "0" * 30, "0" * 31, "0" + "1" * 30, "0" + "9" * 29, "1" * 5000, "--1", "1-", "(1)"]
        for deed in FORMS:
            words = deed_line(deed).split(" ")
            for at, part in enumerate(deed):
                if type(part) is int:
                    for number in bad:
                        self.assert_bad(" ".join(words[:at] + [number] + words[at + 1:]))

    def test_names_that_are_none(self):
        bad = ["", "abcdefghi", "a" * 9, "a" * 500, "Anna", "aNna", "ANNA", "ann1", "1anna", "an-na", "an_na", "an!",
               "anna\n", "\nanna", "anna\t", "\xe4nna", "\xb5", "0", "5", "a.b", "~", "anna!"]
        for deed in FORMS:
            words = deed_line(deed).split(" ")
            places = [at for at, part in enumerate(deed) if at and isinstance(part, str)]
            if deed[0] == "fair":
                places = range(1, len(words))
            for at in places:
                for name in bad:
                    self.assert_bad(" ".join(words[:at] + [name] + words[at + 1:]))

    def test_blanks_and_line_feeds(self):
        for deed in FORMS:
            line = deed_line(deed)
            for gap in (" ", "\n", "  ", "\n\n", " \n", "\t"):
                self.assert_bad(line + gap)
                self.assert_bad(gap + line)
                if " " in line and gap != " ":
                    self.assert_bad(line.replace(" ", gap))
                    self.assert_bad(line.replace(" ", gap, 1))
            self.assert_bad(line + "\n" + line)
            # Doubled so, a fair is one more fair.
            self.assert_read_as_the_point_says(line + " " + line)

    def test_each_sign_at_each_place(self):
        for deed in FORMS:
            line = deed_line(deed)
            for at in range(len(line) + 1):
                for sign in STRANGE:
                    self.assert_read_as_the_point_says(line[:at] + sign + line[at:])
                    self.assert_read_as_the_point_says(line[:at] + sign + line[at + 1:])
                self.assert_read_as_the_point_says(line[:at] + line[at + 1:])
                self.assert_read_as_the_point_says(line[:at])

    def test_refused_each_time_anew(self):
        caught = []
        for number in range(2):
            try:
                read_deed("days 01")
            except BadLine as refusal:
                caught.append(refusal)
        self.assertIsNot(caught[0], caught[1])


class WrittenTest(PagesCase):
    def test_a_new_hall_is_the_text_without_signs(self):
        self.assertEqual(written(Hall()), "")
        self.assertIs(type(opened("")), Hall)
        self.assertEqual(told(opened("")), told(Hall()))
        self.assertEqual(written(opened("")), "")

    def test_without_deeds_but_with_refused_ones(self):
        hall = Hall()
        with self.assertRaises(errors.BadName):
            hall.house("Anna", 1)
        self.assertEqual(written(hall), "")

    def test_line_by_line(self):
        for many in range(len(DEEDS) + 1):
            hall = hall_behind(many)
            text = written(hall)
            self.assertEqual(text, "\n".join(LINES[:many]))
            other = opened(text)
            self.assertIs(type(other), Hall)
            self.assertEqual(told(other), told(hall))
            self.assertEqual(kinds(other.story()), kinds(hall.story()))

    def test_one_deed(self):
        hall = Hall()
        hall.fair([])
        self.assertEqual(written(hall), "fair")
        self.assertEqual(told(opened("fair")), told(hall))

    def test_writing_changes_nothing(self):
        hall = hall_behind(len(DEEDS))
        before = told(hall)
        written(hall)
        self.assertEqual(told(hall), before)

    def test_long_stories_cut_at_any_place(self):
        for seed in range(6):
            hall = grown(seed, 420)
            lines = written(hall).split("\n")
            self.assertEqual(lines, [deed_line(deed) for deed in hall.story()])
            self.assertGreater(len(lines), 100)
            for moment in range(len(lines) + 1):
                text = "\n".join(lines[:moment])
                earlier, other = hall_at(hall, moment), opened(text)
                self.assertEqual(told(other), told(earlier), (seed, moment))
                self.assertEqual((written(earlier), written(other)), (text, text))

    def test_both_go_on_alike_and_each_without_the_other(self):
        ends = told(hall_behind(len(DEEDS)))
        for many in range(len(DEEDS) + 1):
            hall = hall_behind(many)
            other, before = opened(written(hall)), told(hall)
            for deed, tells in DEEDS[many:]:
                self.assertEqual(do_deed(other, deed), tells)
                self.assertEqual(told(hall), before)
            self.assertEqual(told(other), ends)
            for deed, tells in DEEDS[many:]:
                self.assertEqual(do_deed(hall, deed), tells)
            self.assertEqual(told(hall), ends)

    def test_two_halls_that_were_read_know_nothing_of_one_another(self):
        text = "\n".join(LINES)
        one, other = opened(text), opened(text)
        before = told(other)
        one.pass_days(2)
        one.put_in("anna", 2)
        self.assertEqual(told(other), before)


class OpenedTest(PagesCase):
    def assert_bad_text(self, at, lines):
        self.assert_bad_line(at, opened, "\n".join(lines))

    def test_a_line_that_writes_no_deed(self):
        for at in range(len(LINES)):
            for line in ("", " ", "days", "days 01", "today", LINES[at] + " ", " " + LINES[at], LINES[at] + "!",
                         "fair  anna", "5", "abcdefghi", LINES[at].replace(" ", "  ", 1) + " "):
                self.assert_bad_text(at + 1, LINES[:at] + [line] + LINES[at + 1:])
                self.assert_bad_text(at + 1, LINES[:at] + [line] + LINES[at:])

    def test_a_line_feed_at_an_end(self):
        for many in range(1, len(LINES) + 1):
            text = "\n".join(LINES[:many])
            self.assert_bad_line(many + 1, opened, text + "\n")
            self.assert_bad_line(many + 1, opened, text + "\n\n")
            self.assert_bad_line(1, opened, "\n" + text)
        for text in ("\n", "\n\n", " ", " \n"):
            self.assert_bad_line(1, opened, text)

    def test_other_ends_of_lines_are_none(self):
        for gap in ("\r\n", "\r", "\x0b", "\x0c", "\x1c", "\x85", "\u2028"):
            self.assert_bad_line(1, opened, gap.join(LINES))
            self.assert_bad_line(1, opened, LINES[0] + gap)

    def test_each_deed_that_is_refused(self):
        for word, name, ahead, line in REFUSED:
            self.assertEqual(opened("\n".join(ahead)).moment(), len(ahead))
            self.assert_bad_text(len(ahead) + 1, [*ahead, line])
            self.assert_bad_text(len(ahead) + 1, [*ahead, line, "days 1", "no deed"])

    def test_a_refused_deed_at_each_place(self):
        for at in range(len(LINES) + 1):
            for line in ("in zora 1", "days 0", "accept 9 1", "house abc 1000000000001", "fair zora", "lose 0"):
                self.assert_bad_text(at + 1, LINES[:at] + [line] + LINES[at:])

    def test_the_first_of_several_faults(self):
        self.assert_bad_text(2, ["house anna 1", "house anna 1", "no deed", "house anna 1"])
        self.assert_bad_text(2, ["house anna 1", "no deed", "house anna 1"])
        self.assert_bad_text(3, ["house anna 1", "days 1", "fail bert", "", "house"])
        self.assert_bad_text(1, ["in anna 1", "house anna 1"])
        self.assert_bad_text(1, ["house anna 01", "in anna 1"])

    def first_fault(self, lines):
        """The number of the first line that writes no deed or is refused, or None."""
        hall = Hall()
        for at, line in enumerate(lines, 1):
            deed = deed_of(line)
            if deed is None:
                return at
            try:
                do_deed(hall, deed)
            except errors.HallError:
                return at
        return None

    def assert_opened_as_the_point_says(self, lines):
        at = self.first_fault(lines)
        if at is None:
            hall = opened("\n".join(lines))
            self.assertEqual(written(hall), "\n".join(lines))
        else:
            self.assert_bad_text(at, lines)
        return at

    def test_lines_left_out_doubled_and_exchanged(self):
        faults = 0
        for lines in (LINES, written(grown(1, 300)).split("\n")):
            for at in range(len(lines)):
                left_out = lines[:at] + lines[at + 1:]
                doubled = lines[:at + 1] + lines[at:]
                turned = lines[:at] + lines[at:at + 2][::-1] + lines[at + 2:]
                far = lines[:at] + lines[-1:] + lines[at + 1:-1] + lines[at:at + 1]
                for spoilt in (left_out, doubled, turned, far):
                    faults += self.assert_opened_as_the_point_says(spoilt) is not None
        self.assertGreater(faults, 100)

    def test_known_places_of_such_lines(self):
        self.assert_bad_text(4, LINES[:3] + ["house carl 0"] + LINES[3:])
        self.assert_bad_text(4, [line for line in LINES if line != "house carl 0"])
        self.assert_bad_text(10, LINES[:9] + [LINES[12], LINES[10], LINES[11], LINES[9]] + LINES[13:])

    def test_a_late_line_of_a_long_text(self):
        lines = ["house anna 0"] + ["in anna 1"] * 1500
        self.assertEqual(opened("\n".join(lines)).coins("anna"), 1500)
        self.assert_bad_text(1502, lines + ["out anna 1501"])
        self.assert_bad_text(1502, lines + [""])


if __name__ == "__main__":
    unittest.main()
