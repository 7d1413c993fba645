"""Texts of relations and points, and what is read from them."""

import unittest
from itertools import product

from closechains.errors import InvalidPoint, Unreadable
from closechains.points import is_point
from closechains.readings import read_point, read_relation
from closechains.relations import Relation
from closechains.texts import show_point, show_relation
from tests.helper import ENDING_NEVER, FIVE, FREE, PAIRLESS, SQUARE, known_closing

RELATIONS = [row[1] for row in known_closing()] + [row[0] for row in PAIRLESS + ENDING_NEVER]
FORTY = 10 ** 40 - 1
NUMBERS_OF_FORTY_DIGITS = [[FORTY, -FORTY + 1, FORTY - 7, 3, -FORTY, 10 ** 39], [1, 0, 10 ** 39, 0, 0, -FORTY],
                           [0, FORTY, 0, -7, 0, 1]]
WRONG = [(2, 4), (0, 0), (-1, 0), (3, -2), (0, 2)]
# Texts that are no integers.
NO_INTEGERS = ["", "-", "--1", "+1", "01", "007", "-01", "-0", "00", "1.0", "1e3", "0x1", "1_0", "1,0", " 1", "1 ",
               "1-", "1-1", "- 1", "a", "one", "\t1", "1\n", "\n", "(1)", "~", "!", "'1'", "None", "1" * 41,
               "-" + "1" * 41, "0" * 41, "1" * 900, "1" * 5000, "9" * 41, "10" * 21]
# Digits and blanks beyond those of the document.
FOREIGN = ["\u0663", "1\u0660", "\uff11", "\u00b2", "\u2212" + "1", "\u00a01", "1\u2003", "\u00bd"]


class ShowTest(unittest.TestCase):
    def test_known_relations(self):
        for numbers, wanted in [
                (SQUARE, "1 0 1 -5 0 1"), ([-2, 0, -2, 10, 0, -2], "1 0 1 -5 0 1"), (FREE, "1 0 0 2 -1 1"),
                ([0, -2, -2, 18, -4, -2], "0 1 1 -9 2 1"), ([1, 0, 0, -4, -16, 64], "1 0 0 -4 -16 64"),
                (NUMBERS_OF_FORTY_DIGITS[2], "0 " + "9" * 40 + " 0 -7 0 1")]:
            self.assertEqual(show_relation(Relation(numbers)), wanted)

    def test_known_points(self):
        for point, wanted in [
                ((-3, 2), "-3/2"), ((-42, 1), "-42"), ((1, 0), "endless"), ((0, 1), "0"), ((1, 1), "1"), ((-1, 1), "-1"),
                ((3, 2), "3/2"), ((1, 9), "1/9"), ((-1, 10), "-1/10"), ((10, 1), "10"),
                ((FORTY, FORTY - 1), "9" * 40 + "/" + "9" * 39 + "8"), ((-FORTY, 1), "-" + "9" * 40),
                ((1, 10 ** 39), "1/1" + "0" * 39)]:
            self.assertEqual(show_point(point), wanted)

    def test_wrong_points(self):
        for wrong in WRONG + [(2, 0), (-FORTY, 0), (5, 5), (1, -1)]:
            with self.assertRaises(InvalidPoint) as caught:
                show_point(wrong)
            self.assertIs(caught.exception.value, wrong)

    def test_by_name(self):
        relation = Relation(SQUARE)
        self.assertEqual(show_relation(relation=relation), "1 0 1 -5 0 1")
        self.assertEqual(show_point(point=(-3, 2)), "-3/2")
        self.assertEqual(relation.numbers, SQUARE)


class ReadTest(unittest.TestCase):
    def test_relations_that_are_shown(self):
        for numbers in RELATIONS + NUMBERS_OF_FORTY_DIGITS:
            relation = Relation(numbers)
            told = read_relation(show_relation(relation))
            self.assertIs(type(told), Relation)
            self.assertEqual(told, relation)
            self.assertEqual(told.numbers, relation.numbers)
            self.assertEqual(show_relation(told), show_relation(relation))

    def test_points_that_are_shown(self):
        points = [(top, bottom) for bottom in range(12) for top in range(-25, 26) if is_point((top, bottom))]
        points += [(FORTY, FORTY - 1), (-FORTY, 1), (1, 10 ** 39), (10 ** 39, 7), (1 - FORTY, FORTY)]
        for point in points:
            self.assertEqual(read_point(show_point(point)), point)
            self.assertIs(type(read_point(show_point(point))), tuple)

    def test_unlike_ones_are_shown_unlike(self):
        points = [(top, bottom) for bottom in range(8) for top in range(-15, 16) if is_point((top, bottom))]
        self.assertEqual(len({show_point(point) for point in points}), len(points))
        for one, other in product(RELATIONS, repeat=2):
            same = show_relation(Relation(one)) == show_relation(Relation(other))
            self.assertEqual(same, Relation(one) == Relation(other))

    def test_known_ones(self):
        self.assertEqual(read_relation("1 0 1 -5 0 1"), Relation(SQUARE))
        self.assertEqual(read_relation("0 1 1 -9 2 1"), Relation(FIVE))
        for text, wanted in [("3/2", (3, 2)), ("0", (0, 1)), ("endless", (1, 0)), ("-7", (-7, 1)), ("-7/3", (-7, 3)),
                             ("10/3", (10, 3)), ("1/2", (1, 2)), ("-1/2", (-1, 2)), ("9" * 40, (FORTY, 1)),
                             ("-" + "9" * 40 + "/2", (-FORTY, 2))]:
            self.assertEqual(read_point(text), wanted)

    def test_by_name(self):
        self.assertEqual(read_relation(text="1 0 1 -5 0 1"), Relation(SQUARE))
        self.assertEqual(read_point(text="-3/2"), (-3, 2))


class UnreadableTest(unittest.TestCase):
    def check(self, read, text):
        with self.assertRaises(Unreadable, msg=repr(text)) as caught:
            read(text)
        self.assertIs(type(caught.exception), Unreadable)
        self.assertIs(caught.exception.value, text)

    def test_relations_with_what_is_no_integer(self):
        words = show_relation(Relation(SQUARE)).split(" ")
        for wrong in NO_INTEGERS + FOREIGN:
            for at in range(6):
                self.check(read_relation, " ".join(words[:at] + [wrong] + words[at + 1:]))
            self.check(read_relation, wrong)

    def test_zeros_in_relations(self):
        for text in ["-0 1 1 -9 2 1", "00 1 1 -9 2 1", "1 -0 1 -5 0 1", "1 0 1 -5 -0 1", "1 0 01 -5 0 1",
                     "1 0 1 -05 0 1", "1 0 1 -5 0 " + "0" * 39 + "1"]:
            self.check(read_relation, text)

    def test_too_few_and_too_many_numbers(self):
        words = show_relation(Relation(FIVE)).split(" ")
        for length in (0, 1, 2, 3, 4, 5, 7, 8, 12, 400):
            self.check(read_relation, " ".join((words * 70)[:length]))
        self.check(read_relation, "1 0 1 -5 0 1 0")
        self.check(read_relation, "1 0 1 -5 0 1 1 0 1 -5 0 1")

    def test_blanks_in_relations(self):
        good = "1 0 1 -5 0 1"
        for text in [" " + good, good + " ", good.replace(" ", "  ", 1), "1 0 1  -5 0 1", good.replace(" ", "\t"),
                     good.replace(" ", ","), good.replace(" ", ""), good + "\n", "\n" + good, good.replace(" ", "\n"),
                     good.replace(" ", "  "), "1 0 1 - 5 0 1", "[1, 0, 1, -5, 0, 1]", "1 0 1 -5 0  1", "      ", "     "]:
            self.check(read_relation, text)

    def test_numbers_that_no_relation_tells(self):
        for numbers in RELATIONS:
            told = Relation(numbers).numbers
            for factor in (-1, 2, -3, 10):
                self.check(read_relation, " ".join(str(factor * x) for x in told))
        for text in ["0 -1 -1 9 -2 -1", "0 0 -1 3 0 5", "2 0 2 -10 0 2", "-1 0 -1 5 0 -1", "0 2 2 -18 4 2"]:
            self.check(read_relation, text)

    def test_bent_numbers(self):
        for numbers in [[0] * 6, [0, 0, 0, 0, 0, 1], [1, 0, 0, 0, 0, 0], [0, 0, 1, -2, 0, 0], [1, 0, 1, 0, 0, 1],
                        [1, 0, 0, 0, 0, 1], [0, 0, 0, 1, 0, 0], [0, 0, 1, 0, 0, -1], [2, 0, 2, 0, 0, 2]]:
            self.check(read_relation, " ".join(map(str, numbers)))

    def test_forty_one_digits(self):
        self.assertEqual(read_relation("0 " + "9" * 40 + " 0 -7 0 1").numbers, [0, FORTY, 0, -7, 0, 1])
        self.assertEqual(read_relation("1 0 1 -" + "9" * 40 + " 0 1").numbers, [1, 0, 1, -FORTY, 0, 1])
        self.check(read_relation, "0 1" + "0" * 40 + " 0 -7 0 1")
        self.check(read_relation, "1 0 1 -1" + "0" * 40 + " 0 1")
        for text in ["1" + "0" * 40, "-1" + "0" * 40, "1/1" + "0" * 40, "1" + "0" * 40 + "/3"]:
            self.check(read_point, text)

    def test_points_with_what_is_no_integer(self):
        for wrong in NO_INTEGERS + FOREIGN:
            for text in [wrong, wrong + "/3", "5/" + wrong, wrong + "/" + wrong]:
                self.check(read_point, text)

    def test_tops_and_bottoms(self):
        for text in ["3/1", "0/1", "-3/1", "1/0", "0/0", "-1/0", "3/0", "3/-2", "-3/-2", "1/-1", "2/4", "4/2", "-6/4", "0/5",
                     "0/2", "5/5", "3/2/1", "1/2/", "/", "//", "/2", "3/", "3//2", "3 /2", "3/ 2", "3/2 ", " 3/2", "3:2",
                     "3\\2", "03/2", "3/02", "-0/3", "+3/2", "3/+2", "3 2", "1.5", "(3, 2)", "3/2\n", "-"]:
            self.check(read_point, text)

    def test_words(self):
        for text in ["", " ", "Endless", "ENDLESS", "endless ", " endless", "endles", "endlesss", "-endless", "+endless",
                     "endless/1", "1/endless", "infinity", "inf", "nan", "None", "endless\n", "endless endless"]:
            self.check(read_point, text)
            self.check(read_relation, text)

    def test_every_sign(self):
        readable = {str(n) for n in range(1000)} | {"-1", "3/2"}
        for code in range(32, 127):
            for text in [chr(code), "1" + chr(code), chr(code) + "1", "3" + chr(code) + "2"]:
                self.check(read_relation, text)
                if text not in readable:
                    self.check(read_point, text)

    def test_texts_are_read_only_if_they_are_shown(self):
        read = 0
        for letters in product("-0123/ ", repeat=4):
            text = "".join(letters)
            try:
                point = read_point(text)
            except Unreadable as error:
                self.assertEqual(error.value, text)
            else:
                self.assertEqual(show_point(point), text)
                read += 1
        self.assertGreater(read, 100)
        shown = {show_point((top, bottom)) for top in range(-333, 4000) for bottom in range(1, 334)
                 if is_point((top, bottom))}
        letters = set("-0123/")
        self.assertEqual(read, len([text for text in shown if len(text) == 4 and set(text) <= letters]))
