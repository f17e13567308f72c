"""Promises 35 to 37: sets of widths."""

import itertools
import unittest

from howeverwide.errors import InvalidName, InvalidNumber, InvalidText, InvalidWidth, InvalidWidths
from howeverwide.widths import greatest_width, has_width, how_many_below, is_widths, joined_widths, later_widths, least_width
from howeverwide.widths import next_width, parting_width, plain_widths, text_of_widths, turned_widths, width_numbered, widths_of_text
from tests.support import POOL, Maker, have_new_lists, kept, raised_by

MOST = 400
BIG = 10 ** 30 - 1
RULES = {"and": lambda one, other: one and other, "or": lambda one, other: one or other, "unlike": lambda one, other: one != other}
ODD, EVEN = ([], [False, True]), ([], [True, False])
NONE, ALL = ([], [False]), ([], [True])


def listed(widths):
    """Whether each of the widths below 400 is in a set."""
    ahead, turn = widths
    return (ahead + turn * MOST)[:MOST]


def is_plain(widths):
    ahead, turn = widths
    shorter = [size for size in range(1, len(turn)) if len(turn) % size == 0 and turn[:size] * (len(turn) // size) == turn]
    return not shorter and (not ahead or ahead[-1] != turn[-1])


def made_widths(seed, most=7):
    random = Maker(seed).random
    chance = random.choice([0.1, 0.5, 0.9])
    ahead, turn = [[random.random() < chance for _ in range(random.randint(low, most))] for low in (0, 1)]
    return ahead, turn * random.choice([1, 1, 2, 3])


def all_small():
    lists = [list(told) for many in range(4) for told in itertools.product([False, True], repeat=many)]
    return [(ahead, turn) for ahead in lists for turn in lists if turn]


class WidthsTest(unittest.TestCase):

    def test_what_are_widths(self):
        for widths in ([ODD, NONE, ([True], [False])] + [made_widths(seed) for seed in range(40)]):
            self.assertIs(is_widths(widths), True)
        for wrong in (([], []), ([True], []), [[], [True]], ((), (True,)), ([], (True,)), ((), [True]), ([], [1]), ([0], [True]), ([None], [True]),
                      ([], [True], []), ([True],), (), None, [True], ([[True]], [True]), True, "(1)", {0: [], 1: [True]}):
            self.assertIs(is_widths(wrong), False, wrong)
        for value, kinds in POOL.entries:
            self.assertIs(is_widths(value), "widths" in kinds, value)

    def test_in_a_set(self):
        for seed in range(60):
            widths = made_widths(seed)
            told = listed(widths)
            for width in range(MOST):
                self.assertIs(has_width(widths, width), told[width])
        self.assertEqual([has_width(ODD, BIG), has_width(EVEN, BIG), has_width(([True] * 200, [False] * 199 + [True]), BIG)], [True, False, (BIG - 200) % 200 == 199])

    def test_plain_ones(self):
        seen = {}
        for widths in all_small() + [made_widths(seed) for seed in range(300)]:
            before = kept(widths)
            plain = plain_widths(widths)
            self.assertEqual([is_plain(plain), listed(plain), widths], [True, listed(widths), before], widths)
            self.assertEqual(plain_widths(plain), plain)
            self.assertTrue(have_new_lists([plain, plain_widths(widths)], widths))
            self.assertEqual(seen.setdefault(tuple(listed(widths)), plain), plain)
        self.assertEqual(plain_widths(([False, True, False, True], [False, True, False, True])), ODD)
        self.assertEqual(plain_widths(([False, False, True], [False, False, True])), ([], [False, False, True]))
        self.assertEqual(plain_widths(([True, False, False, True], [False, False, True])), ([], [True, False, False]))
        self.assertEqual(plain_widths(([True] * 200, [True] * 200)), ALL)
        self.assertEqual(plain_widths(([True] + [False] * 199, [True] + [False] * 199)), ([], [True] + [False] * 199))

    def test_joined(self):
        for seed in range(250):
            one, other = made_widths(seed), made_widths(seed + 5000)
            before = kept((one, other))
            for way, rule in RULES.items():
                made = joined_widths(way, one, other)
                self.assertEqual([is_plain(made), listed(made)], [True, [rule(a, b) for a, b in zip(listed(one), listed(other))]])
                self.assertTrue(have_new_lists([made, joined_widths(way, one, other)], [one, other]))
            self.assertEqual((one, other), before)
            self.assertEqual(turned_widths(one), joined_widths("unlike", one, ALL))
            self.assertEqual([is_plain(turned_widths(one)), listed(turned_widths(one))], [True, [not told for told in listed(one)]])
        self.assertEqual([joined_widths("and", ODD, EVEN), joined_widths("or", ODD, EVEN), joined_widths("unlike", ODD, ODD)], [NONE, ALL, NONE])

    def test_joined_with_200_items(self):
        one, other = ([True] * 200, [False] * 199 + [True]), ([False] * 100, [False] * 198 + [True])
        made = joined_widths("and", one, other)
        self.assertEqual([len(made[1]), sum(made[1]), is_widths(made)], [200 * 199, 1, True])
        self.assertEqual(parting_width(one, made), 0)
        self.assertIsNone(parting_width(made, joined_widths("and", other, one)))
        for width in (298, 299, 399, 10 ** 20, 10 ** 20 + 7):
            self.assertIs(has_width(made, width), has_width(one, width) and has_width(other, width))

    def test_parting(self):
        for seed in range(300):
            one, other = made_widths(seed, 4), made_widths(seed // 2 + 900, 4)
            found = [width for width in range(MOST) if listed(one)[width] != listed(other)[width]]
            self.assertEqual(parting_width(one, other), found[0] if found else None)
            self.assertEqual(parting_width(other, one), parting_width(one, other))
            self.assertIsNone(parting_width(one, plain_widths(one)))
            self.assertEqual(parting_width(one, turned_widths(one)), 0)
        late = ([True] * 199 + [False], [True])
        self.assertEqual([parting_width(late, ALL), parting_width(ALL, late)], [199, 199])
        # The last widths that may be needed: those ahead, and the common multiple of both rounds, less 1.
        self.assertEqual(parting_width(([True] * 3, [False] * 5 + [True]), ([True] * 3, [False])), 8)
        self.assertEqual(parting_width(([True] * 200, [False] * 199 + [True]), ([True], [True] * 199 + [False])), 201)
        self.assertEqual(parting_width(([], [True] * 198 + [False, True]), ([], [True] * 198 + [False])), 397)
        self.assertIsNone(parting_width(([True] * 200, [True, False] * 100), ([True] * 201, [False, True])))

    def test_later(self):
        for seed in range(60):
            widths = made_widths(seed)
            before = kept(widths)
            for many in (0, 1, 5, 100):
                made = later_widths(widths, many)
                self.assertEqual([is_plain(made), listed(made)], [True, ([False] * many + listed(widths))[:MOST]])
                self.assertTrue(have_new_lists([made, later_widths(widths, many)], widths))
            self.assertEqual(widths, before)
            self.assertEqual(later_widths(widths, 0), plain_widths(widths))
        self.assertEqual([later_widths(NONE, 100), later_widths(ALL, 1)], [NONE, ([False], [True])])
        self.assertEqual(later_widths(ODD, 2), ([False, False], [False, True]))

    def test_numbers_of_widths(self):
        for widths in all_small() + [made_widths(seed) for seed in range(120)]:
            found = [width for width, told in enumerate(listed(widths)) if told]
            ended = not any(widths[1])
            self.assertEqual(least_width(widths), found[0] if found else None)
            self.assertEqual(greatest_width(widths), found[-1] if found and ended else None)
            for width in list(range(30)) + [123]:
                above = [one for one in found if one > width]
                self.assertEqual(next_width(widths, width), above[0] if above else None)
                self.assertEqual(how_many_below(widths, width), len([one for one in found if one < width]))
            for number in range(60):
                told = found[number] if number < len(found) else None
                if told is not None or ended:
                    self.assertEqual(width_numbered(widths, number), told)

    def test_numbers_of_30_figures(self):
        widths = ([True, False, True], [False, True, True, False, True])
        for width in (BIG, 10 ** 29, 10 ** 20 + 7, 3 * 10 ** 25 + 4):
            many = how_many_below(widths, width)
            nearest = width_numbered(widths, many)
            self.assertEqual(how_many_below(widths, nearest), many)
            self.assertIs(has_width(widths, nearest), True)
            self.assertEqual(nearest, width if has_width(widths, width) else next_width(widths, width))
            self.assertLess(width_numbered(widths, many - 1), width)
        self.assertEqual(how_many_below(ODD, BIG), BIG // 2)
        self.assertEqual(next_width(EVEN, BIG), BIG + 1)
        self.assertIsNone(next_width(([True] * 9, [False]), BIG))
        self.assertIsNone(width_numbered(([True] * 9, [False]), BIG))
        self.assertEqual([how_many_below(([True] * 9, [False]), BIG), how_many_below(NONE, BIG), how_many_below(ALL, BIG)], [9, 0, BIG])

    def test_whole_numbers_are_no_booleans(self):
        for told in (how_many_below(ALL, 1), how_many_below(([True], [False]), 1), how_many_below(ALL, 0), width_numbered(ALL, 1), least_width(ODD)):
            self.assertIs(told.__class__, int)

    def test_texts(self):
        self.assertEqual([text_of_widths(ODD), text_of_widths(([True], [True])), text_of_widths(([], [True, True]))], ["(01)", "1(1)", "(11)"])
        self.assertEqual([widths_of_text("1(1)"), widths_of_text("(1010)"), widths_of_text("0001(0)")], [ALL, EVEN, ([False] * 3 + [True], [False])])
        for widths in all_small() + [made_widths(seed) for seed in range(100)]:
            self.assertEqual(widths_of_text(text_of_widths(widths)), plain_widths(widths))
            self.assertEqual(text_of_widths(widths).replace("(", "").replace(")", ""), "".join("01"[one] for one in widths[0] + widths[1]))
            self.assertTrue(have_new_lists([widths_of_text(text_of_widths(widths)) for _ in range(2)], widths))
        long = "01" * 100 + "(" + "110" * 60 + ")"
        self.assertEqual(widths_of_text(long), ([False, True] * 100, [True, True, False]))

    def test_what_is_no_text(self):
        for text in ("", "()", "1", "1(", "1)", "(1", "(11", "(10 ", "0(011", "1()", "(1))", "((1)", "(1)(1)", "(1)1", " (1)", "(1) ", "(1)\n", "2(1)", "(2)", "(1 0)", ")1(", "(-1)",
                     "x(1)", "1(0", "10", None, 1, b"", ["(1)"], ("(1)",), True, ODD):
            error = raised_by(widths_of_text, text)
            self.assertIs(error.__class__, InvalidText, text)
            self.assertIs(error.value, text)

    def test_wrong_arguments(self):
        wrong = ([], [])
        for way in ("then", "And", "", None, ["and"], True):
            error = raised_by(joined_widths, way, wrong, wrong)
            self.assertIs(error.__class__, InvalidName)
            self.assertIs(error.value, way)
        for function in (lambda one, other: joined_widths("or", one, other), parting_width):
            for one, other in ((wrong, None), (ODD, wrong)):
                error = raised_by(function, one, other)
                self.assertIs(error.__class__, InvalidWidths)
                self.assertIs(error.value, wrong)
        for function in (has_width, next_width, how_many_below):
            for width in (-1, True, None, "3", [3], False):
                self.assertIs(raised_by(function, wrong, width).__class__, InvalidWidths)
                error = raised_by(function, ODD, width)
                self.assertIs(error.__class__, InvalidWidth)
                self.assertIs(error.value, width)
        for many in (-1, 101, True, None, "0", 10 ** 30):
            self.assertIs(raised_by(later_widths, wrong, many).__class__, InvalidWidths)
            error = raised_by(later_widths, ODD, many)
            self.assertIs(error.__class__, InvalidNumber)
            self.assertIs(error.value, many)
        for number in (-1, True, None, "0", [1]):
            self.assertIs(raised_by(width_numbered, wrong, number).__class__, InvalidWidths)
            error = raised_by(width_numbered, ODD, number)
            self.assertIs(error.__class__, InvalidNumber)
            self.assertIs(error.value, number)


if __name__ == "__main__":
    unittest.main()
