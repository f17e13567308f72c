"""Promises 8 and 9: values, and which claims hold."""

import unittest

from howeverwide.errors import InvalidFilling
from howeverwide.meaning import holds, value
from howeverwide.texts import claim_of_text
from howeverwide.words import free_names, names_of_expression
from tests.support import Maker, fillings, nested, plain_value, plainly_holds

BIG = 10 ** 30 - 1
MOST = 2 ** 64 - 1


class ValueTest(unittest.TestCase):

    def test_against_a_plain_reckoning(self):
        for seed in range(400):
            expression = Maker(seed, ("x", "y")).expression(4)
            names = names_of_expression(expression)
            for width in (0, 1, 2, 3):
                for filling in fillings(names, width):
                    self.assertEqual(value(width, expression, filling), plain_value(width, expression, dict(filling)))

    def test_against_a_plain_reckoning_at_great_widths(self):
        for seed in range(400):
            maker = Maker(seed, ("x", "y"))
            expression = maker.expression(4)
            for width in (31, 64):
                filling = [(name, maker.random.randrange(2 ** width)) for name in names_of_expression(expression)]
                self.assertEqual(value(width, expression, filling), plain_value(width, expression, dict(filling)))

    def test_numbers(self):
        self.assertEqual([value(3, number, []) for number in (0, 7, 8, 13, -1, -8, -9)], [0, 7, 0, 5, 7, 0, 7])
        self.assertEqual([value(64, number, []) for number in (-1, 2 ** 64, 1001)], [MOST, 0, 1001])
        self.assertEqual([value(64, BIG, []), value(64, -BIG, [])], [BIG % 2 ** 64, -BIG % 2 ** 64])

    def test_the_width_0(self):
        for seed in range(100):
            expression = Maker(seed).expression(3)
            self.assertEqual(value(0, expression, [(name, 0) for name in names_of_expression(expression)]), 0)

    def test_shifts_by_more_than_the_width(self):
        for k in (3, 4, 8, 9, 64, 65, BIG):
            self.assertEqual(value(3, ("up", k, "x"), [("x", 7)]), 0)
            self.assertEqual(value(3, ("down", k, "x"), [("x", 7)]), 0)
        self.assertEqual([value(3, ("up", 2, "x"), [("x", 7)]), value(3, ("down", 2, "x"), [("x", 7)])], [4, 1])
        self.assertEqual(value(64, ("up", 63, ("down", 0, "x")), [("x", MOST)]), 2 ** 63)

    def test_limits(self):
        self.assertEqual(value(64, ("times", -100, "x"), [("x", MOST)]), 100)
        self.assertEqual(value(64, ("times", BIG, "x"), [("x", 3)]), BIG * 3 % 2 ** 64)
        deep = nested(lambda inner: ("minus", -1, ("turned", inner)), "x", 14)
        self.assertEqual(value(8, deep, [("x", 200)]), 200)

    def test_fillings_of_just_the_names(self):
        for filling in ([], [("x", 1)], [("x", 1), ("y", 1), ("z", 1)], [("y", 1), ("x", 1)]):
            with self.assertRaises(InvalidFilling) as caught:
                value(1, ("plus", "y", "x"), filling)
            self.assertIs(caught.exception.value, filling)


class HoldsTest(unittest.TestCase):

    def test_against_a_plain_going_through_all_words(self):
        for seed in range(1000):
            claim = Maker(seed).claim(3)
            for width in (0, 1, 2):
                for filling in fillings(free_names(claim), width):
                    told = holds(width, claim, filling)
                    self.assertIs(told, plainly_holds(width, claim, dict(filling)), (width, claim, filling))

    def test_without_some_and_all_at_the_width_64(self):
        for seed in range(500):
            maker = Maker(seed)
            claim = maker.claim(3, 0)
            filling = [(name, maker.random.choice([0, 1, 2 ** 63, MOST, maker.random.randrange(2 ** 64)]))
                       for name in free_names(claim)]
            self.assertIs(holds(64, claim, filling), plainly_holds(64, claim, dict(filling)))

    def test_comparing_with_signs(self):
        told = [holds(2, ("under", "x", "y"), filling) for filling in fillings(["x", "y"], 2)]
        order = {2: 0, 3: 1, 0: 2, 1: 3}
        self.assertEqual(told, [order[x] < order[y] for x in range(4) for y in range(4)])
        self.assertIs(holds(0, ("under", "x", "y"), [("x", 0), ("y", 0)]), False)
        self.assertIs(holds(1, ("under", "x", "y"), [("x", 1), ("y", 0)]), True)
        self.assertIs(holds(64, ("under", -1, 0), []), True)
        self.assertIs(holds(64, ("below", -1, 0), []), False)

    def test_bits_and_the_top_one(self):
        for k, width, wanted in ((0, 0, False), (0, 1, True), (2, 2, False), (1, 2, True), (8, 9, True), (64, 64, False),
                                 (63, 64, True), (BIG, 64, False)):
            self.assertIs(holds(width, ("bit", k, -1), []), wanted)
        self.assertEqual([holds(width, ("top", -1), []) for width in (0, 1, 64)], [False, True, True])
        self.assertEqual([holds(3, ("top", "x"), [("x", word)]) for word in (3, 4)], [False, True])

    def test_no_parts(self):
        for width in (0, 5, 64):
            self.assertEqual([holds(width, ("and",), []), holds(width, ("or",), [])], [True, False])

    def test_bound_anew_within_its_own(self):
        inner = ("some", "x", ("same", "x", 3))
        self.assertIs(holds(2, ("all", "x", inner), []), True)
        self.assertIs(holds(2, ("and", inner, ("same", "x", 1)), [("x", 1)]), True)
        self.assertIs(holds(2, ("all", "x", ("or", ("all", "x", ("below", "x", 3)), ("below", "x", 4))), []), False)
        self.assertIs(holds(3, ("all", "x", ("or", ("some", "x", ("below", 6, "x")), ("top", "x"))), []), True)
        shadowed = ("some", "x", ("and", ("same", "x", 1), ("some", "x", ("same", "x", 2)), ("same", "x", 1)))
        self.assertIs(holds(2, shadowed, []), True)

    def test_told_with_names_in_any_order(self):
        less = (2, [[0, 0, 1, 0], [1, 0, 1, 1]], [False, True])
        for filling in fillings(["x", "y"], 3):
            x, y = filling[0][1], filling[1][1]
            self.assertIs(holds(3, ("told", less, ["x", "y"]), filling), x < y)
            self.assertIs(holds(3, ("told", less, ["y", "x"]), filling), y < x)
        self.assertIs(holds(0, ("told", (0, [[0]], [True]), []), []), True)
        even = (0, [[1], [0]], [True, False])
        self.assertEqual([holds(width, ("told", even, []), []) for width in (0, 1, 63, 64)], [True, False, False, True])

    def test_at_the_limits_within_seconds(self):
        sums = ("and", *[("not", ("same", ("times", 3, ("plus", "a", "b")), ("minus", "x", 1))) for _ in range(6)])
        self.assertIs(holds(6, ("all", "a", ("some", "b", sums)), [("x", 5)]), True)
        self.assertIs(holds(12, ("all", "a", ("not", ("same", ("times", 2, "a"), 1))), []), True)
        names = [f"a{number}" for number in range(12)]
        claim = ("and",)
        for name in names:
            claim = ("all", name, claim)
        self.assertIs(holds(1, claim, []), True)
        told = (6, [[(letter + stand) % 200 for letter in range(64)] for stand in range(200)], [True] * 200)
        self.assertIs(holds(2, ("all", "a", ("all", "b", ("told", told, list("abcdef")))), [(name, 3) for name in "cdef"]), True)

    def test_read_from_a_text(self):
        claim = claim_of_text("all x [some y [(2 * y) = (x & -2)]]")
        self.assertEqual([holds(width, claim, []) for width in range(5)], [True] * 5)


if __name__ == "__main__":
    unittest.main()
