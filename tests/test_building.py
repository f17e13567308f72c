"""Promises 29 and 30: tables of claims."""

import unittest

from howeverwide.building import as_told, table_of, table_on
from howeverwide.errors import InvalidClaim, InvalidNames, TooMany
from howeverwide.pieces import most_names, piece_of
from howeverwide.tables import is_least, is_table, takes
from howeverwide.words import free_names, is_claim
from tests.support import Maker, fillings, have_new_lists, kept, plain_letters, plainly_holds, plainly_takes, raised_by

LESS = ("below", "x", "y")
NAMES = ["a", "b", "c", "d", "e", "f"]


def ring(stands, many, end=0):
    """A "told" that holds at the widths that leave as much by a number of stands as the end's number is."""
    steps = [[(stand + 1) % stands] * 2 ** many for stand in range(stands)]
    return ("told", (many, steps, [stand == end for stand in range(stands)]), NAMES[:many])


def counted(places):
    """A "told" of x and y: once the bits of both are 1, so many places are counted to the end."""
    steps = [[0, 0, 0, 1]] + [[stand + 1] * 4 for stand in range(1, places)] + [[0] * 4]
    return ("told", (2, steps, [stand == places for stand in range(places + 1)]), ["x", "y"])


class TablesOfClaimsTest(unittest.TestCase):

    def test_against_holding_at_the_widths_0_to_3(self):
        refused = 0
        for seed in range(400):
            claim = Maker(seed, ("x", "y")).claim(3, 1)
            before = kept(claim)
            try:
                table = table_of(claim)
            except TooMany:
                refused += 1
                continue
            self.assertEqual(claim, before)
            self.assertEqual([is_table(table), is_least(table)], [True, True])
            names = free_names(claim)
            self.assertEqual(table[0], len(names))
            for width in range(4):
                for filling in fillings(names, width):
                    row = plain_letters(width, [word for _, word in filling])
                    self.assertIs(plainly_takes(table, row), plainly_holds(width, claim, dict(filling)), (claim, filling))
        self.assertLess(refused, 40)

    def test_claims_that_bind_within_one_another(self):
        for seed in range(150):
            claim = Maker(seed, ("x", "y", "z")).claim(4, 2)
            names = free_names(claim)
            try:
                table = table_of(claim)
            except TooMany:
                continue
            for width in range(3):
                for filling in fillings(names, width):
                    row = plain_letters(width, [word for _, word in filling])
                    self.assertIs(takes(table, row), plainly_holds(width, claim, dict(filling)), (claim, filling))

    def test_greater_widths(self):
        """Words of up to 64 bits, with shifts and bits up to the places that are allowed."""
        looked = 0
        for seed in range(150):
            maker = Maker(seed, ("x", "y"))
            random = maker.random
            inner = maker.expression(2)
            claim = random.choice([("same", ("down", random.randint(4, 8), "x"), inner), ("bit", random.randint(4, 8), inner),
                                   ("under", ("up", random.randint(4, 8), "x"), inner), ("below", inner, ("plus", "y", 1000)),
                                   ("or", maker.claim(2, 0), ("same", inner, -1000))])
            try:
                table = table_of(claim)
            except TooMany:
                continue
            names = free_names(claim)
            for width in (5, 8, 9, 10, 33, 64):
                for _ in range(6):
                    ends = [0, 2 ** width - 1, 2 ** (width - 1), random.randrange(2 ** width), random.randrange(2 ** min(width, 5))]
                    words = [random.choice(ends) for _ in names]
                    filling = dict(zip(names, words))
                    row = plain_letters(width, [filling[name] for name in names])
                    self.assertIs(takes(table, row), plainly_holds(width, claim, filling), (claim, filling))
                    looked += 1
        self.assertGreater(looked, 2000)

    def test_on_further_names(self):
        for seed in range(60):
            claim = Maker(seed, ("b", "e")).claim(2, 1)
            try:
                table = table_on(claim, ["a", "b", "c", "e"])
            except TooMany:
                continue
            self.assertEqual([table[0], is_least(table)], [4, True])
            for width in range(3):
                for filling in fillings(["b", "e"], width):
                    words = dict(filling)
                    row = plain_letters(width, [1 % 2 ** width, words["b"], 2 ** width - 1, words["e"]])
                    inner = {name: words[name] for name in free_names(claim)}
                    self.assertIs(takes(table, row), plainly_holds(width, claim, inner))
            self.assertEqual(table_on(claim, free_names(claim)), table_of(claim))

    def test_names_on_which_a_claim_does_not_depend(self):
        self.assertEqual(table_of(("same", "x", "x")), (1, [[0, 0]], [True]))
        self.assertEqual(table_of(("below", ("times", 0, "x"), 0)), (1, [[0, 0]], [False]))
        self.assertEqual(table_of(("and",)), (0, [[0]], [True]))
        self.assertEqual(table_of(("or",)), (0, [[0]], [False]))
        self.assertEqual(table_on(("or",), NAMES), (6, [[0] * 64], [False]))
        self.assertEqual(table_on(("same", 2, 0), []), table_of(("same", 2, 0)))
        self.assertEqual(table_of(("same", 2, 0)), (0, [[1], [2], [2]], [True, True, False]))

    def test_on_six_names(self):
        whole = "a"
        for name in NAMES[1:]:
            whole = ("plus", whole, name)
        claim = ("same", whole, 1)
        table = table_of(claim)
        self.assertEqual([table[0], len(table[1]), most_names(piece_of(claim))], [6, 8, 6])
        for filling in fillings(NAMES, 1):
            row = plain_letters(1, [word for _, word in filling])
            self.assertIs(takes(table, row), plainly_holds(1, claim, dict(filling)))
        told = ("told", Maker(5).table(6, 200), NAMES[::-1])
        table = table_of(told)
        for seed in range(50):
            random = Maker(seed).random
            words = [random.randrange(2 ** 5) for _ in NAMES]
            self.assertIs(takes(table, plain_letters(5, words)), plainly_holds(5, told, dict(zip(NAMES, words))))

    def test_wrong_names(self):
        for names in ([], ["x"], ["y"], ["y", "x"], ["x", "y", "y"], ("x", "y"), ["x", "y", 1], ["x", "z"], None):
            error = raised_by(table_on, LESS, names)
            self.assertIs(error.__class__, InvalidNames)
            self.assertIs(error.value, names)
        self.assertIs(raised_by(table_on, ("same", "x"), None).__class__, InvalidClaim)
        self.assertIs(raised_by(table_on, ("some", "x", LESS), ["x"]).__class__, InvalidNames)
        self.assertIsNone(raised_by(table_on, ("some", "x", LESS), ["y"]))

    def test_too_many_stands(self):
        # 16 * 125 stands are just as many as are allowed, 23 * 87 = 2,001 one more.
        for word in ("and", "or", "iff"):
            self.assertEqual(len(table_of((word, ring(16, 1), ring(125, 1, 3)))[1]), 2000)
            for claim in ((word, ring(23, 1), ring(87, 1, 3)), (word, ring(199, 1), ring(200, 2))):
                self.refused(claim)
                self.refused(("not", claim))
                self.refused(("and", ("or",), ("some", "a", claim)))
        # Parts that are made least first count as that, and those together at once.
        idle = ("and", ring(87, 1), ("or",))
        self.assertEqual(table_of(("or", ring(23, 1), idle)), table_of(ring(23, 1)))
        self.assertEqual(table_of(("and", ring(50, 1), ring(200, 1, 1), ring(200, 1))), (1, [[0, 0]], [False]))
        three = [ring(19, 1), ring(10, 1), ring(11, 1)]
        self.refused(("or", *three))
        self.refused(("or", three[0], ("or", *three[1:])))
        self.assertIsNone(raised_by(table_of, ("and", ("or", *three[1:]), ("or", *three[1:]))))

    def test_too_many_lots(self):
        self.assertEqual(len(table_of(("some", "y", counted(10)))[1]), 1024)
        self.refused(("some", "y", counted(11)))
        self.refused(("all", "y", ("not", counted(11))))

    def test_too_many_labels(self):
        # The carries are the numbers from -998 to 1,000; with one label more for what is off these are 2,000.
        self.assertEqual(len(table_of(("same", ("plus", ("times", 1001, "x"), ("times", -999, "y")), 0))[1]), 2000)
        self.refused(("same", ("plus", ("times", 1001, "x"), ("times", -1000, "y")), 0))
        self.refused(("and", ("or",), ("same", ("times", 100, ("times", 99, "x")), "y")))

    def refused(self, claim):
        names = free_names(claim)
        for function, others in ((table_of, []), (table_on, [names]), (as_told, [])):
            error = raised_by(function, claim, *others)
            self.assertIs(error.__class__, TooMany, claim[:1])
            self.assertEqual(error.value, 2001)
        self.assertIs(raised_by(table_on, claim, ["z", "y"]).__class__, InvalidNames)

    def test_as_told(self):
        for seed in range(80):
            claim = Maker(seed, ("y", "x")).claim(3, 1)
            try:
                told = as_told(claim)
            except TooMany:
                continue
            self.assertEqual(told, ("told", table_of(claim), free_names(claim)))
            self.assertIs(is_claim(told), True)
            self.assertEqual(as_told(told), told)
            self.assertTrue(have_new_lists([told, as_told(told)], claim))
            for filling in fillings(free_names(claim), 2):
                self.assertIs(plainly_holds(2, told, dict(filling)), plainly_holds(2, claim, dict(filling)))


if __name__ == "__main__":
    unittest.main()
