"""The desk and its answers (point 20)."""

import inspect
import unittest

from allonge import errors
from allonge.desk import Desk
from allonge.hall import Hall
from allonge.pages import opened, read_deed, written
from allonge.past import do_deed, hall_at
from halls import HUGE, METHODS, HallCase, told
from lines import (
    ACCEPTED, ANSWERS, BACK, CHAIN, DRAWN, FORMS, HOUSES, PAID, PROTESTED, REFUSED, SIGNED, STRANGE, UNPAID,
)
from model_desk import ModelDesk
from stories import DEEDS, REFUSALS, hall_behind

NAME_QUESTIONS = ("purse", "stands")
BILL_QUESTIONS = ("state", "holder", "bearer", "open", "row")
BAD_NAMES = ["", "abcdefghi", "Anna", "ANNA", "ann1", "1", "0", "anna!", "an-na", "anna\n", "\nanna", "anna\t",
             "a" * 500, "\xe4nna"]
BAD_NUMBERS = ["", "00", "01", "007", "+1", "-1", "-0", "1.0", "1_0", "0x1", "a", "anna", "one", "1!", "1\n", "\n1",
               "1\t", "\xb2", "\u0661", "\uff11", "1" * 31, "9" * 31, "0" * 30, "0" + "1" * 30, "1" * 5000]


def desk_behind(lines):
    """A desk at which these deeds were done."""
    desk = Desk()
    for line in lines:
        answer = desk.say(line)
        if answer.startswith("no "):
            raise AssertionError((line, answer))
    return desk


class DeskCase(HallCase):
    def assert_says(self, desk, *pairs):
        """These lines are answered so, and none of them changes anything."""
        before = told(desk.floor())
        for line, answer in pairs:
            said = desk.say(line)
            self.assertIs(type(said), str)
            self.assertEqual(said, answer, line)
            self.assertEqual(told(desk.floor()), before, line)


class InterfaceTest(unittest.TestCase):
    def test_the_class_and_its_methods(self):
        self.assertEqual(Desk.__module__, "allonge.desk")
        self.assertEqual(list(inspect.signature(Desk).parameters), [])
        for name, parts in (("say", ["self", "line"]), ("floor", ["self"])):
            self.assertIn(name, vars(Desk))
            self.assertEqual(list(inspect.signature(vars(Desk)[name]).parameters), parts)


class DeedTest(DeskCase):
    def test_each_of_the_seventeen_deeds(self):
        desk = Desk()
        for moment, (line, answer) in enumerate(ANSWERS):
            said = desk.say(line)
            self.assertIs(type(said), str)
            self.assertEqual(said, answer, line)
            self.assertEqual(told(desk.floor()), told(hall_behind(moment + 1)), line)
        self.assertEqual({line.split(" ")[0] for line, answer in ANSWERS}, set(METHODS))
        self.assertEqual(written(desk.floor()), "\n".join(line for line, answer in ANSWERS))

    def test_done_is_the_answer_to_just_these(self):
        done = {line.split(" ")[0] for line, answer in ANSWERS if answer == "done"}
        self.assertEqual(done, set(METHODS) - {"draw", "lose", "present", "ask", "fair"})

    def test_numbers_of_bills_and_copies(self):
        desk = desk_behind(HOUSES)
        for number in range(1, 41):
            self.assertEqual(desk.say("draw bert anna carl 10 0 free"), f"bill {number}")
        self.assertEqual(desk.say("draw bert anna carl 10 0 free"), "no Full")
        for bill in (7, 40):
            self.assertEqual([desk.say(f"lose {bill}") for turn in range(3)], ["copy 2", "copy 3", "no Full"])

    def test_presenting(self):
        for lines, answer in ((ACCEPTED, "paid"), (DRAWN, "unpaid"), (ACCEPTED + ["fail anna"], "unpaid"),
                              (ACCEPTED + ["out anna 91"], "unpaid"), (ACCEPTED + ["out anna 90"], "paid"),
                              (ACCEPTED + ["sign 1 1 anna free", "out anna 100"], "paid")):
            desk = desk_behind(lines)
            self.assertEqual(desk.say("present 1 1"), answer)
            self.assertEqual(desk.say("state 1"), answer)

    def test_asking_tells_who_pays(self):
        for place, name in enumerate(("anna", "bert", "carl")):
            desk = desk_behind(CHAIN)
            self.assertEqual(desk.say(f"ask 1 1 {place}"), f"{name} pays")
            self.assertEqual(desk.say(f"purse {name}"), "90")
            self.assertEqual(desk.say("purse dora"), "110")
            self.assertEqual(desk.say("holder 1"), name)

    def test_fairs(self):
        lines = HOUSES[:3] + ["house a 0"]
        for drawee, payee in (("anna", "bert"), ("bert", "anna"), ("a", "anna"), ("carl", "carl"), ("anna", "carl")):
            lines += [f"draw {payee} {drawee} {payee} 60 0 bound"]
        lines += [f"accept {bill} 1" for bill in range(1, 6)]
        for fair, answer in (("fair", "paid"), ("fair anna", "paid"), ("fair carl", "paid 4"),
                             ("fair bert anna", "paid 1 2"), ("fair anna bert carl", "paid 1 2 4 5"),
                             ("fair a anna", "paid"), ("fair carl a bert anna", "paid 1 2 4 5"),
                             ("fair anna carl", "paid 4 5")):
            desk = desk_behind(lines)
            self.assertEqual(desk.say(fair), answer)
            self.assertEqual(desk.floor().story()[-1], ("fair", tuple(fair.split(" ")[1:])))

    def test_numbers_of_two_figures_at_a_fair(self):
        lines = HOUSES + ["draw bert anna carl 1 0 free"] * 12 + [f"accept {bill} 1" for bill in (12, 3, 9, 10)]
        self.assertEqual(desk_behind(lines).say("fair carl anna"), "paid 3 9 10 12")

    def test_names_that_are_words_of_the_page(self):
        desk = Desk()
        for name in ("paid", "none", "open", "no", "bill", "fair", "pays"):
            self.assertEqual(desk.say(f"house {name} 5"), "done")
        self.assertEqual(desk.say("draw none fair paid 5 0 bound"), "bill 1")
        self.assertEqual(desk.say("accept 1 1"), "done")
        self.assertEqual(desk.say("sign 1 1 open free"), "done")
        self.assertEqual(desk.say("row 1"), "fair! none! paid")
        self.assertEqual(desk.say("holder 1"), "open")
        self.assertEqual(desk.say("fail fair"), "done")
        self.assertEqual(desk.say("present 1 1"), "unpaid")
        self.assertEqual(desk.say("protest 1 1"), "done")
        self.assertEqual(desk.say("bearer 1"), "none")
        self.assertEqual(desk.say("ask 1 1 1"), "none pays")
        self.assertEqual(desk.say("purse none"), "0")
        self.assertEqual(desk.say("stands fair"), "failed")
        self.assertEqual(desk.say("fair fair fair"), "no Twice")


class RefusalTest(DeskCase):
    def test_each_refusal_that_a_line_can_bring_about(self):
        for word, name, ahead, line in REFUSED:
            self.assertEqual(line.split(" ")[0], word)
            self.assert_says(desk_behind(ahead), (line, f"no {name}"))

    def test_none_of_them_is_left_out(self):
        wanted = {(word, name) for word, names in REFUSALS.items() for name in names.split()}
        wanted.remove(("house", "BadName"))
        self.assertEqual({(word, name) for word, name, ahead, line in REFUSED}, wanted)

    def test_the_hall_refuses_them_so_too(self):
        for word, name, ahead, line in REFUSED:
            hall = opened("\n".join(ahead))
            with self.assertRaises(errors.HallError, msg=line) as caught:
                do_deed(hall, read_deed(line))
            self.assertIs(caught.exception.__class__, getattr(errors, name), line)

    def test_a_bad_name_is_no_written_deed(self):
        desk = desk_behind(HOUSES)
        for name in BAD_NAMES:
            self.assert_says(desk, (f"house {name} 5", "no BadLine"), (f"fail {name}", "no BadLine"),
                             (f"draw bert {name} carl 5 0 bound", "no BadLine"))

    def test_the_desk_goes_on_behind_refusals(self):
        desk = Desk()
        for (line, answer), (word, name, ahead, refused) in zip(ANSWERS, REFUSED):
            self.assert_says(desk, ("no line", "no BadLine"), ("in zora 1", "no NoHouse"), ("accept 99 1", "no NoBill"))
            self.assertEqual(desk.say(line), answer)


class QuestionTest(DeskCase):
    def test_purses(self):
        desk = desk_behind(["house anna 0", "house bert 1000000000000", "house a 7"])
        self.assert_says(desk, ("purse anna", "0"), ("purse bert", "1000000000000"), ("purse a", "7"))
        desk.say("in bert 1000000000000")
        self.assert_says(desk, ("purse bert", "2000000000000"))

    def test_stands(self):
        desk = desk_behind(HOUSES + ["fail anna"])
        self.assert_says(desk, ("stands anna", "failed"), ("stands bert", "open"))
        desk.say("mend anna")
        self.assert_says(desk, ("stands anna", "open"))

    def test_strange_houses(self):
        for desk in (Desk(), desk_behind(HOUSES)):
            for name in ("zora", "a", "ann", "annaa", "abcdefgh", "none", "open"):
                self.assert_says(desk, (f"purse {name}", "no NoHouse"), (f"stands {name}", "no NoHouse"))

    def test_today(self):
        desk = Desk()
        self.assert_says(desk, ("today", "0"))
        self.assertEqual([desk.say(line) for line in ("days 7", "today", "days 1000", "today")],
                         ["done", "7", "done", "1007"])

    def test_states(self):
        for lines, state in ((DRAWN, "running"), (SIGNED, "running"), (PAID, "paid"), (UNPAID, "unpaid"),
                             (BACK, "unpaid"), (PROTESTED, "protested"), (CHAIN, "protested"),
                             (CHAIN + ["ask 1 1 0"], "paid"), (CHAIN + ["ask 1 1 1"], "protested"),
                             (CHAIN + ["honour 1 1 emil 0"], "protested"), (BACK + ["ask 1 1 0"], "paid")):
            self.assert_says(desk_behind(lines), ("state 1", state))

    def test_holders(self):
        for lines, holder in ((DRAWN, "carl"), (SIGNED, "dora"), (PAID, "carl"), (CHAIN + ["ask 1 1 0"], "anna"),
                              (CHAIN + ["ask 1 1 1"], "bert"), (CHAIN + ["honour 1 1 emil 0"], "emil"),
                              (ACCEPTED + ["blank 1 1 dora free", "hand 1 1 emil"], "emil")):
            self.assert_says(desk_behind(lines), ("holder 1", holder))

    def test_bearers(self):
        for lines, bearer in ((CHAIN, "anna"), (CHAIN + ["fail anna"], "bert"), (CHAIN + ["out anna 91"], "bert"),
                              (CHAIN + ["fail anna", "fail bert"], "carl"), (BACK, "anna"), (UNPAID, "carl"),
                              (CHAIN + ["fail anna", "fail bert", "fail carl"], "dora"), (PROTESTED, "bert"),
                              (BACK + ["fail anna"], "dora"), (CHAIN + ["honour 1 1 emil 0", "fail anna"], "emil")):
            self.assert_says(desk_behind(lines), ("bearer 1", bearer))

    def test_bearers_of_bills_that_did_not_come_back(self):
        for lines, answer in ((DRAWN, "no NotPresented"), (SIGNED, "no NotPresented"), (PAID, "no Closed"),
                              (CHAIN + ["ask 1 1 0"], "no Closed")):
            self.assert_says(desk_behind(lines), ("bearer 1", answer))

    def test_open_places(self):
        for lines, answer in ((DRAWN, "none"), (SIGNED, "none"), (PAID, "none"), (UNPAID, "none"), (BACK, "0"),
                              (PROTESTED, "1"), (CHAIN, "0 1 2"), (CHAIN + ["ask 1 1 2"], "0 1"),
                              (CHAIN + ["ask 1 1 1"], "0"), (CHAIN + ["ask 1 1 0"], "none"),
                              (CHAIN + ["honour 1 1 emil 0"], "0"), (CHAIN + ["honour 1 1 emil 1"], "0 1")):
            self.assert_says(desk_behind(lines), ("open 1", answer))

    def test_rows(self):
        for lines, answer in ((DRAWN, "anna bert!"), (ACCEPTED, "anna! bert!"), (SIGNED, "anna! bert! carl!"),
                              (ACCEPTED + ["sign 1 1 dora free"], "anna! bert! carl"),
                              (ACCEPTED + ["blank 1 1 dora bound"], "anna! bert! carl!"),
                              (HOUSES + ["draw bert anna carl 1 0 free"], "anna bert"),
                              (HOUSES + ["draw anna anna anna 1 0 free", "sign 1 1 bert bound"], "anna anna anna!"),
                              (CHAIN + ["honour 1 1 emil 0"], "anna! bert"), (CHAIN + ["ask 1 1 2"], "anna! bert!")):
            self.assert_says(desk_behind(lines), ("row 1", answer))

    def test_bills_apart(self):
        desk = desk_behind(SIGNED + ["draw dora emil anna 5 3 free"])
        self.assert_says(desk, ("row 1", "anna! bert! carl!"), ("row 2", "emil dora"), ("holder 2", "anna"),
                         ("holder 1", "dora"), ("state 2", "running"), ("open 2", "none"))

    def test_no_such_bill(self):
        for desk, numbers in ((Desk(), (0, 1, HUGE)), (desk_behind(CHAIN), (0, 2, 10, 40, 10 ** 29, HUGE))):
            for question in BILL_QUESTIONS:
                for number in numbers:
                    self.assert_says(desk, (f"{question} {number}", "no NoBill"))

    def test_questions_are_no_deeds(self):
        desk = desk_behind(CHAIN)
        for question in ("today", "row 1", "open 1", "bearer 1", "state 1", "holder 1", "purse anna", "stands anna"):
            desk.say(question)
        self.assertEqual(written(desk.floor()), "\n".join(CHAIN))


class OtherLineTest(DeskCase):
    def assert_all_bad(self, desk, lines):
        self.assert_says(desk, *[(line, "no BadLine") for line in lines])

    def test_names_that_are_none_in_questions(self):
        desk = desk_behind(CHAIN)
        for question in NAME_QUESTIONS:
            self.assert_all_bad(desk, [f"{question} {name}" for name in BAD_NAMES])

    def test_numbers_that_are_written_otherwise_in_questions(self):
        desk = desk_behind(CHAIN)
        for question in BILL_QUESTIONS:
            self.assert_all_bad(desk, [f"{question} {number}" for number in BAD_NUMBERS])

    def test_parts_of_the_other_kind(self):
        desk = desk_behind(CHAIN + ["house row 1", "house one 1"])
        self.assert_all_bad(desk, ["purse 1", "stands 1", "state anna", "holder bert", "bearer one", "open none",
                                   "row row", "today 0", "today today", "today anna"])

    def test_words_left_out_and_too_many(self):
        desk = desk_behind(CHAIN)
        for question in NAME_QUESTIONS:
            self.assert_all_bad(desk, [question, f"{question} anna anna", f"{question} anna 1", f"anna {question}",
                                       f"{question}anna", f"{question} {question} anna", "anna"])
        for question in BILL_QUESTIONS:
            self.assert_all_bad(desk, [question, f"{question} 1 1", f"1 {question}", f"{question}1",
                                       f"{question} {question} 1", "1"])

    def test_blanks_and_line_feeds(self):
        desk = desk_behind(CHAIN)
        for line in ("today", "purse anna", "stands anna", "state 1", "holder 1", "bearer 1", "open 1", "row 1"):
            for gap in (" ", "\n", "  ", "\n\n", "\t", "\r"):
                self.assert_all_bad(desk, [line + gap, gap + line])
                if " " in line and gap != " ":
                    self.assert_all_bad(desk, [line.replace(" ", gap)])
            self.assert_all_bad(desk, [line + "\n" + line, line + " " + line])

    def test_deeds_that_are_not_written_so(self):
        desk = desk_behind(CHAIN)
        for deed, line in [(deed, " ".join(map(str, deed))) for deed in FORMS if deed[0] != "fair"]:
            self.assert_all_bad(desk, [f"{line} ", f" {line}", f"{line}\n", f"\n{line}", f"{line}  1", line + "!"])
        self.assert_all_bad(desk, ["in anna 05", "in anna  5", "in anna -5", "in anna", "in", "in anna 5 5", "days 1.0",
                                   "days " + "1" * 31, "sign 1 1 carl True", "fair anna 1", "fair  anna", "fair anna "])

    def test_no_line_at_all(self):
        desk = desk_behind(CHAIN)
        self.assert_all_bad(desk, ["", " ", "\n", "no", "done", "none", "names", "coins anna", "story", "twin", "floor",
                                   "say", "moment", "paper 1", "copy_of 1", "copy 1", "in_blank 1", "liable anna",
                                   "runs 1", "debts anna", "crowd anna", "nets anna", "plan anna", "written", "Today",
                                   "TODAY", "tod", "Purse anna", "PURSE anna", "purses anna", "opens 1",
                                   "put_in anna 1"])

    def test_each_sign_at_each_place_of_a_question(self):
        desk = desk_behind(CHAIN)
        before = told(desk.floor())
        model = ModelDesk()
        for line in CHAIN:
            model.say(line)
        for line in ("today", "purse anna", "stands anna", "state 1", "holder 1", "bearer 1", "open 1", "row 1"):
            for at in range(len(line) + 1):
                for sign in STRANGE:
                    for spoilt in (line[:at] + sign + line[at:], line[:at] + sign + line[at + 1:]):
                        self.assertEqual(desk.say(spoilt), model.say(spoilt), spoilt)
        self.assertEqual(told(desk.floor()), before)


class FloorTest(DeskCase):
    def test_of_a_new_desk(self):
        floor = Desk().floor()
        self.assertIs(type(floor), Hall)
        self.assertEqual(told(floor), told(Hall()))

    def test_a_change_of_the_floor_changes_nothing_at_the_desk(self):
        for many in range(len(ANSWERS) + 1):
            desk = desk_behind([line for line, answer in ANSWERS[:many]])
            floor, before = desk.floor(), told(hall_behind(many))
            self.assertEqual(told(floor), before)
            for deed, tells in DEEDS[many:]:
                do_deed(floor, deed)
                self.assertEqual(told(desk.floor()), before)
            floor.pass_days(3)
            floor.fail("carl")
            self.assertEqual(told(desk.floor()), before)
            self.assertEqual(desk.say("today"), str(before[-1][0]))

    def test_a_deed_at_the_desk_changes_no_floor(self):
        desk = Desk()
        floors = [desk.floor()]
        for line, answer in ANSWERS:
            desk.say(line)
            floors.append(desk.floor())
        for moment, floor in enumerate(floors):
            self.assertEqual(told(floor), told(hall_behind(moment)))
            self.assertEqual(told(hall_at(desk.floor(), moment)), told(floor))

    def test_each_floor_is_a_hall_of_its_own(self):
        desk = desk_behind(HOUSES)
        one, other = desk.floor(), desk.floor()
        self.assertIsNot(one, other)
        one.pass_days(1)
        self.assertEqual((other.today(), desk.floor().today(), desk.say("today")), (0, 0, "0"))


class TwoDesksTest(DeskCase):
    def test_they_know_nothing_of_one_another(self):
        one, other = Desk(), Desk()
        for line, answer in ANSWERS:
            before = told(other.floor())
            self.assertEqual(one.say(line), answer)
            self.assertEqual(told(other.floor()), before)
            self.assertEqual(other.say(line), answer)
        self.assertEqual(told(one.floor()), told(other.floor()))

    def test_a_house_of_the_one_is_strange_to_the_other(self):
        one, other = Desk(), Desk()
        one.say("house anna 5")
        one.say("draw anna anna anna 5 0 bound")
        one.say("days 3")
        self.assert_says(other, ("purse anna", "no NoHouse"), ("state 1", "no NoBill"), ("today", "0"))
        self.assert_says(one, ("purse anna", "5"), ("state 1", "running"), ("today", "3"))


if __name__ == "__main__":
    unittest.main()
