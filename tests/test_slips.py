"""Names and rows, as allonge.slips tells them (points 1, 2, 5, 9, 10, 11 and 12)."""

import inspect
import itertools
import random
import unittest

from allonge import slips
from allonge.slips import askable, bearer_of, honoured, is_name, reach, returned, runs_of

LETTERS = "abcdefghijklmnopqrstuvwxyz"
# All signs of texts (point 1) that are no small letters.
OTHERS = [chr(code) for code in range(32, 127) if chr(code) not in LETTERS + "%"] + ["\n"]
INTERFACE = {
    "is_name": ["word"],
    "reach": ["row", "house"],
    "askable": ["row", "holder", "protested"],
    "returned": ["row", "place"],
    "honoured": ["row", "place"],
    "runs_of": ["row", "holder", "able", "protested"],
    "bearer_of": ["row", "holder", "able", "protested"],
}
# Eight places, eight houses, each bound.
LONG = [(house, True) for house in ("anna", "bert", "carl", "dora", "emil", "fritz", "gerda", "hans")]
# Bert stands at four places, free at the first two of them; dora is free but for the last place.
MIXED = [
    ("anna", True), ("bert", False), ("carl", True), ("bert", False),
    ("dora", False), ("bert", True), ("bert", True), ("dora", True),
]


def small_rows():
    """All rows of 2 and 3 places of two houses, bound and free."""
    pairs = list(itertools.product("ab", (True, False)))
    for places in (2, 3):
        for row in itertools.product(pairs, repeat=places):
            yield list(row)


def many_rows(count):
    """Rows of 2 to 8 places in which houses stand several times; always the same ones."""
    chance = random.Random(count)
    for number in range(count):
        houses = "abcdefgh"[:chance.randint(2, 8)]
        mostly_bound = chance.choice((0.3, 0.6, 0.9))
        yield [(chance.choice(houses), chance.random() < mostly_bound) for place in range(2 + number % 7)]


def all_rows():
    return itertools.chain(small_rows(), many_rows(400))


def may_ask(row, holder, protested, place):
    """Point 9, said again: the holder is bound neither at the place nor ahead of it."""
    if (holder, True) in row[:place + 1]:
        return False
    return row[place][1] and (place == 0 or protested)


def behind(row, holder, protested, places):
    """Row and holder behind these askings (point 10), or None where one can't be asked."""
    for place in places:
        if place >= len(row) or not may_ask(row, holder, protested, place):
            return None
        holder = row[place][0]
        if place == 0:
            # Paid: no place can be asked any more.
            row = []
        else:
            row = row[:2] if place == 1 else row[:place]
    return row, holder


def all_runs(row, holder, able, protested):
    """Point 11 by trying all lists of places without one twice."""
    found = []
    for many in range(len(row) + 1):
        for places in itertools.permutations(range(len(row)), many):
            if any(row[place][0] not in able for place in places):
                continue
            end = behind(row, holder, protested, places)
            if end is None:
                continue
            rest, last = end
            if not any(may_ask(rest, last, protested, at) and rest[at][0] in able for at in range(len(rest))):
                found.append(list(places))
    return sorted(found)


class InterfaceTest(unittest.TestCase):
    def test_names_and_arguments(self):
        for name, arguments in INTERFACE.items():
            with self.subTest(name=name):
                function = getattr(slips, name)
                self.assertEqual(function.__module__, "allonge.slips")
                self.assertEqual(list(inspect.signature(function).parameters), arguments)


class NameTest(unittest.TestCase):
    def test_texts_of_1_to_8_small_letters_are_names(self):
        for length in range(11):
            with self.subTest(length=length):
                self.assertIs(is_name("a" * length), 1 <= length <= 8)
                self.assertIs(is_name(LETTERS[-length:] if length else ""), 1 <= length <= 8)

    def test_each_small_letter_may_stand_anywhere(self):
        for letter in LETTERS:
            for word in (letter, letter + "bc", "b" + letter + "c", "bc" + letter, letter * 8):
                self.assertIs(is_name(word), True, word)

    def test_no_other_sign_may_stand_anywhere(self):
        for sign in OTHERS:
            for length in range(10):
                for place in range(length + 1):
                    word = "b" * place + sign + "c" * (length - place)
                    self.assertIs(is_name(word), False, repr(word))

    def test_words_that_only_look_like_names(self):
        for word in ("anna ", " anna", "an na", "anna\n", "\nanna", "Anna", "annA", "anna1", "1", "`", "{", "a`", "{z"):
            self.assertIs(is_name(word), False, repr(word))


class ReachTest(unittest.TestCase):
    def test_the_first_bound_place_counts(self):
        self.assertEqual(reach(MIXED, "anna"), 0)
        self.assertEqual(reach(MIXED, "carl"), 2)
        self.assertEqual(reach(MIXED, "bert"), 5)
        self.assertEqual(reach(MIXED, "dora"), 7)

    def test_bound_nowhere_it_is_the_count_of_places(self):
        self.assertEqual(reach(MIXED, "emil"), 8)
        self.assertEqual(reach(MIXED[:5], "bert"), 5)
        self.assertEqual(reach(MIXED[:7], "dora"), 7)
        self.assertEqual(reach([("anna", False), ("anna", False)], "anna"), 2)

    def test_each_place_of_a_long_row(self):
        for places in range(2, 9):
            row = LONG[:places]
            for place, (house, bound) in enumerate(LONG):
                self.assertEqual(reach(row, house), min(place, places))

    def test_a_name_is_compared_whole(self):
        self.assertEqual(reach([("anna", True), ("ann", True)], "ann"), 1)

    def test_as_the_point_says(self):
        for row in all_rows():
            for house in "abz":
                places = [place for place, pair in enumerate(row) if pair == (house, True)]
                self.assertEqual(reach(row, house), min(places, default=len(row)), (row, house))

    def test_the_row_stays(self):
        row = list(MIXED)
        reach(row, "bert")
        self.assertEqual(row, MIXED)


class AskableTest(unittest.TestCase):
    def test_a_house_that_stands_nowhere_asks_all_bound_places(self):
        self.assertEqual(askable(MIXED, "emil", True), [0, 2, 5, 6, 7])
        self.assertEqual(askable(LONG, "emma", True), [0, 1, 2, 3, 4, 5, 6, 7])

    def test_a_house_asks_only_ahead_of_its_reach(self):
        self.assertEqual(askable(MIXED, "bert", True), [0, 2])
        self.assertEqual(askable(MIXED, "dora", True), [0, 2, 5, 6])
        self.assertEqual(askable(MIXED, "carl", True), [0])
        self.assertEqual(askable(MIXED, "anna", True), [])

    def test_unprotested_only_place_nought_is_open(self):
        for holder in ("emil", "bert", "carl", "dora"):
            self.assertEqual(askable(MIXED, holder, False), [0])
        self.assertEqual(askable(MIXED, "anna", False), [])

    def test_a_drawee_that_did_not_accept_is_not_asked(self):
        row = [("anna", False), ("bert", True), ("carl", True)]
        self.assertEqual(askable(row, "dora", False), [])
        self.assertEqual(askable(row, "dora", True), [1, 2])
        self.assertEqual(askable(row, "anna", True), [1, 2])
        self.assertEqual(askable(row, "bert", True), [])

    def test_without_a_bound_place_nobody_is_asked(self):
        row = [(house, False) for house, bound in LONG]
        self.assertEqual(askable(row, "emil", True), [])
        self.assertEqual(askable(row, "emil", False), [])

    def test_as_the_point_says(self):
        for row in all_rows():
            for holder in "abz":
                for protested in (True, False):
                    places = [at for at in range(len(row)) if may_ask(row, holder, protested, at)]
                    self.assertEqual(askable(row, holder, protested), places, (row, holder, protested))

    def test_a_told_list_that_is_changed_changes_nothing(self):
        row = list(MIXED)
        places = askable(row, "emil", True)
        self.assertIsInstance(places, list)
        places.clear()
        self.assertEqual(row, MIXED)
        self.assertEqual(askable(row, "emil", True), [0, 2, 5, 6, 7])

    def test_the_row_stays_and_may_change_later(self):
        row = list(MIXED)
        places = askable(row, "emil", True)
        self.assertEqual(row, MIXED)
        row.clear()
        self.assertEqual(places, [0, 2, 5, 6, 7])


class BehindRowCase(unittest.TestCase):
    def assert_apart(self, row_behind, first):
        """Told row and handed-in row know nothing of one another."""
        for places in range(2, 9):
            for place in range(first, places):
                row = MIXED[:places]
                told = row_behind(row, place)
                self.assertEqual(row, MIXED[:places], (places, place))
                self.assertIsInstance(told, list)
                kept = list(told)
                told.append(("zora", True))
                told[0] = ("zora", False)
                self.assertEqual(row, MIXED[:places], (places, place))
                self.assertEqual(row_behind(row, place), kept, (places, place))
                told = row_behind(row, place)
                row.clear()
                self.assertEqual(told, kept, (places, place))


class ReturnedTest(BehindRowCase):
    def test_from_place_2_on_the_signature_itself_is_struck(self):
        self.assertEqual(returned(MIXED, 2), [("anna", True), ("bert", False)])
        self.assertEqual(returned(MIXED, 3), [("anna", True), ("bert", False), ("carl", True)])
        self.assertEqual(returned(MIXED, 7), MIXED[:-1])

    def test_at_place_1_the_drawer_stays(self):
        self.assertEqual(returned(MIXED, 1), [("anna", True), ("bert", False)])
        row = [("anna", False), ("bert", True), ("bert", True)]
        self.assertEqual(returned(row, 1), [("anna", False), ("bert", True)])

    def test_each_place_of_rows_of_2_to_8_places(self):
        for places in range(2, 9):
            for row in (LONG[:places], MIXED[:places], MIXED[8 - places:]):
                for place in range(1, places):
                    left = [pair for at, pair in enumerate(row) if at < 2 or at < place]
                    self.assertEqual(returned(row, place), left, (row, place))

    def test_told_and_handed_in_rows_are_apart(self):
        self.assert_apart(returned, 1)


class HonouredTest(BehindRowCase):
    def test_the_place_itself_stays(self):
        self.assertEqual(honoured(MIXED, 2), [("anna", True), ("bert", False), ("carl", True)])
        self.assertEqual(honoured(MIXED, 6), MIXED[:7])
        self.assertEqual(honoured(MIXED, 7), MIXED)

    def test_for_place_1_the_drawer_stays_as_it_was(self):
        self.assertEqual(honoured(LONG, 1), [("anna", True), ("bert", True)])
        self.assertEqual(honoured(MIXED, 1), [("anna", True), ("bert", False)])

    def test_for_place_nought_the_drawer_stays_but_is_free(self):
        self.assertEqual(honoured(LONG, 0), [("anna", True), ("bert", False)])
        self.assertEqual(honoured(MIXED, 0), [("anna", True), ("bert", False)])
        self.assertEqual(honoured([("anna", True), ("anna", True)], 0), [("anna", True), ("anna", False)])
        self.assertEqual(honoured([("anna", False), ("bert", True)], 0), [("anna", False), ("bert", False)])

    def test_each_place_of_rows_of_2_to_8_places(self):
        for places in range(2, 9):
            for row in (LONG[:places], MIXED[:places], MIXED[8 - places:]):
                self.assertEqual(honoured(row, 0), [row[0], (row[1][0], False)], row)
                for place in range(1, places):
                    left = [pair for at, pair in enumerate(row) if at <= place]
                    self.assertEqual(honoured(row, place), left, (row, place))

    def test_the_pairs_stay_tuples(self):
        for place in range(8):
            self.assertTrue(all(isinstance(pair, tuple) for pair in honoured(LONG, place)))

    def test_told_and_handed_in_rows_are_apart(self):
        self.assert_apart(honoured, 0)


class RunsTest(unittest.TestCase):
    ROW = [("anna", True), ("bert", True), ("carl", True), ("dora", True)]

    def test_all_able(self):
        self.assertEqual(
            runs_of(self.ROW, "emil", ["anna", "bert", "carl", "dora"], True),
            [[0], [1, 0], [2, 0], [2, 1, 0], [3, 0], [3, 1, 0], [3, 2, 0], [3, 2, 1, 0]],
        )

    def test_some_able(self):
        self.assertEqual(runs_of(self.ROW, "emil", ["bert", "dora"], True), [[1], [3, 1]])
        self.assertEqual(runs_of(self.ROW, "emil", ["dora"], True), [[3]])
        self.assertEqual(runs_of(self.ROW, "emil", ["dora", "anna"], True), [[0], [3, 0]])

    def test_nobody_able(self):
        for able in ([], ["emil"], ["zora", "ann"]):
            self.assertEqual(runs_of(self.ROW, "emil", able, True), [[]])
            self.assertEqual(bearer_of(self.ROW, "emil", able, True), "emil")

    def test_the_holder_asks_only_ahead_of_its_reach(self):
        able = ["anna", "bert", "carl", "dora"]
        self.assertEqual(runs_of(self.ROW, "carl", able, True), [[0], [1, 0]])
        self.assertEqual(runs_of(self.ROW, "anna", able, True), [[]])
        self.assertEqual(bearer_of(self.ROW, "anna", able, True), "anna")

    def test_unprotested_only_the_drawee_is_asked(self):
        able = ["anna", "bert", "carl", "dora"]
        self.assertEqual(runs_of(self.ROW, "emil", able, False), [[0]])
        self.assertEqual(bearer_of(self.ROW, "emil", able, False), "anna")
        self.assertEqual(runs_of(self.ROW, "emil", ["bert", "carl"], False), [[]])
        self.assertEqual(bearer_of(self.ROW, "emil", ["bert", "carl"], False), "emil")

    def test_no_open_place_at_all(self):
        row = [(house, False) for house, bound in self.ROW]
        for protested in (True, False):
            self.assertEqual(runs_of(row, "emil", ["anna", "bert", "carl", "dora"], protested), [[]])
            self.assertEqual(bearer_of(row, "emil", ["anna", "bert", "carl", "dora"], protested), "emil")

    def test_a_house_at_several_places_is_asked_once_in_a_run(self):
        row = [("anna", False), ("bert", False), ("carl", True), ("dora", True), ("carl", True), ("emil", True)]
        able = ["carl", "dora", "emil"]
        self.assertEqual(
            runs_of(row, "fritz", able, True),
            [[2], [3, 2], [4], [5, 2], [5, 3, 2], [5, 4]],
        )
        self.assertEqual(bearer_of(row, "fritz", able, True), "carl")

    def test_a_drawee_who_signed_too_ends_the_run_at_either_place(self):
        row = [("anna", True), ("bert", True), ("anna", True), ("carl", True)]
        self.assertEqual(
            runs_of(row, "dora", ["anna", "bert", "carl"], True),
            [[0], [1, 0], [2], [3, 0], [3, 1, 0], [3, 2]],
        )
        self.assertEqual(bearer_of(row, "dora", ["anna", "bert", "carl"], True), "anna")

    def test_a_free_place_of_an_able_house_is_passed_over(self):
        row = [("anna", False), ("bert", False), ("carl", True), ("bert", True)]
        self.assertEqual(runs_of(row, "dora", ["anna", "bert", "carl"], True), [[2], [3, 2]])
        self.assertEqual(bearer_of(row, "dora", ["anna", "bert", "carl"], True), "carl")
        self.assertEqual(bearer_of(row, "dora", ["anna", "bert"], True), "bert")

    def test_the_longest_row(self):
        able = [house for house, bound in LONG]
        runs = runs_of(LONG, "emma", able, True)
        self.assertEqual(len(runs), 128)
        self.assertEqual(runs[:4], [[0], [1, 0], [2, 0], [2, 1, 0]])
        self.assertEqual(runs[-1], [7, 6, 5, 4, 3, 2, 1, 0])
        self.assertEqual(runs, sorted(runs))
        self.assertEqual(bearer_of(LONG, "emma", able, True), "anna")
        self.assertEqual(bearer_of(LONG, "emma", able[1:], True), "bert")

    def test_as_the_points_say(self):
        for number, row in enumerate(itertools.chain(small_rows(), many_rows(350))):
            if len(row) > 6:
                continue
            for holder in "abz":
                for able in ([], ["a"], ["b"], ["b", "d", "f", "h"], list("hgfedcba")):
                    protested = number % 4 > 0
                    runs = all_runs(row, holder, able, protested)
                    self.assertEqual(runs_of(row, holder, able, protested), runs, (row, holder, able, protested))

    def test_behind_every_run_stands_the_bearer(self):
        for row in all_rows():
            for holder in "abz":
                for able in ([], ["a"], ["b", "d", "f", "h"], list("abcdefgh")):
                    for protested in (True, False):
                        bearer = bearer_of(row, holder, able, protested)
                        for run in runs_of(row, holder, able, protested):
                            self.assertEqual(behind(row, holder, protested, run)[1], bearer, (row, holder, run))

    def test_the_order_of_able_and_a_name_twice_make_no_difference(self):
        for able in (["bert", "dora"], ["dora", "bert"], ["dora", "bert", "dora", "zora"]):
            self.assertEqual(runs_of(self.ROW, "emil", able, True), [[1], [3, 1]])
            self.assertEqual(bearer_of(self.ROW, "emil", able, True), "bert")

    def test_row_and_able_stay(self):
        row, able = list(self.ROW), ["dora", "bert", "anna"]
        runs_of(row, "emil", able, True)
        bearer_of(row, "emil", able, True)
        self.assertEqual(row, self.ROW)
        self.assertEqual(able, ["dora", "bert", "anna"])

    def test_a_told_list_that_is_changed_changes_nothing(self):
        row, able = list(self.ROW), ["bert", "dora"]
        runs = runs_of(row, "emil", able, True)
        runs[0].append(9)
        self.assertEqual(runs[1:], [[3, 1]])
        runs[1].clear()
        runs.append([4])
        self.assertEqual(runs_of(row, "emil", able, True), [[1], [3, 1]])
        self.assertEqual((row, able), (self.ROW, ["bert", "dora"]))
        empty = runs_of(row, "emil", [], True)
        empty[0].append(9)
        empty.append([])
        self.assertEqual(runs_of(row, "emil", [], True), [[]])

    def test_a_later_change_of_row_or_able_does_not_show(self):
        row, able = list(self.ROW), ["bert", "dora"]
        runs = runs_of(row, "emil", able, True)
        row.clear()
        able.clear()
        self.assertEqual(runs, [[1], [3, 1]])


if __name__ == "__main__":
    unittest.main()
