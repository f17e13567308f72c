"""Promises 65 to 69: what always holds where a claim does."""

import itertools
import unittest

from howeverwide.alike import are_alike
from howeverwide.always import always_equal, always_turned, bit_always, kept_sums, mattering, no_word, sum_against, top_always
from howeverwide.always import two_words, without
from howeverwide.atoms import atom_table
from howeverwide.building import table_of
from howeverwide.errors import InvalidClaim, InvalidName, InvalidNumber, TooMany
from howeverwide.reach import sure_widths
from howeverwide.widths import has_width
from howeverwide.words import free_names
from tests.support import POOL, Maker, fillings, have_new_lists, kept, plain_bits, plainly_holds, raised_by
from tests.test_building import counted, ring
from tests.test_widths import ALL, NONE, is_plain

EVEN, ODD = ("same", ("times", 2, "y"), "x"), ("same", ("times", 3, "y"), "x")
NEAT = ("and", ("same", ("plus", "x", "y"), -1), ("same", "z", "y"))
BIG = ("and", ring(43, 1), ring(47, 1))
NEVER = ("and", ("below", "x", "y"), ("below", "y", "x"), ("same", "z", "z"))


def made_claims(seeds, names=("x", "y"), deep=1):
    """Claims with free names that have a table."""
    for seed in seeds:
        claim = Maker(seed, names).claim(deep, 1)
        if seed % 4 == 0:
            claim = ("and", claim, ("same", names[seed % len(names)], Maker(seed, names).expression(1)))
        if free_names(claim) and raised_by(table_of, claim) is None:
            yield claim


def met(width, claim):
    return [filling for filling in fillings(free_names(claim), width) if plainly_holds(width, claim, dict(filling))]


def put(filling, name, word):
    return [(other, word if other == name else known) for other, known in filling]


def left_away(filling, name):
    return [item for item in filling if item[0] != name]


class WordsTest(unittest.TestCase):

    def held_against(self, told, wanted, most):
        """What is told beyond the greatest width that is gone through is only held against nothing ahead of it."""
        self.assertEqual(None if told is not None and told[0] > most else told, wanted)

    def test_against_all_fillings_of_small_widths(self):
        found = [0, 0, 0]
        for claim in made_claims(range(120)):
            before = kept(claim)
            for name in free_names(claim):
                told = two_words(claim, name), no_word(claim, name), mattering(claim, name)
                self.assertTrue(have_new_lists([told, two_words(claim, name), no_word(claim, name), mattering(claim, name)], claim))
                self.look_at(claim, name, told, 3)
                found = [many + (one is None) for many, one in zip(found, told)]
            self.assertEqual(claim, before)
        self.assertGreater(min(found), 10)

    def test_three_names_and_one(self):
        for claim in made_claims(range(200, 240), ("x", "y", "z")):
            for name in free_names(claim):
                self.look_at(claim, name, (two_words(claim, name), no_word(claim, name), mattering(claim, name)), 2)
        for claim in made_claims(range(300, 340), ("x",)):
            self.look_at(claim, "x", (two_words(claim, "x"), no_word(claim, "x"), mattering(claim, "x")), 3)

    def look_at(self, claim, name, told, most):
        others = [other for other in free_names(claim) if other != name]
        two, none, matters = None, None, None
        for width in range(most + 1):
            good = met(width, claim)
            for rest in fillings(others, width):
                words = [word for word in range(2 ** width) if sorted(rest + [(name, word)]) in good]
                if len(words) > 1 and two is None:
                    two = (width, rest, words[0], words[1])
                if len(words) == 0 and none is None:
                    none = (width, rest)
            for filling in good:
                worse = [word for word in range(2 ** width) if put(filling, name, word) not in good]
                if worse and matters is None:
                    matters = (width, filling, worse[0])
        for one, wanted in zip(told, (two, none, matters)):
            self.held_against(one, wanted, most)

    def test_first_in_order_and_not_by_rows(self):
        # Of the words 1 and 2 by rows 2 is the first one, in order 1 is.
        two = ("and", ("not", ("same", "x", 0)), ("not", ("same", "x", 3)), ("same", 4, 0), ("not", ("same", 2, 0)))
        claim = ("and", two, ("not", ("bit", 0, "y")))
        self.assertEqual(two_words(claim, "y"), (2, [("x", 1)], 0, 2))
        self.assertEqual(no_word(("or", ("not", two), ("and", two, ("below", "y", "y"))), "y"), (2, [("x", 1)]))
        self.assertEqual(mattering(claim, "y"), (2, [("x", 1), ("y", 0)], 1))

    def test_far_widths_and_claims_met_nowhere(self):
        claim = ("or", ("not", ring(60, 0, 59)), ("same", "x", "y"))
        self.assertEqual(no_word(("and", ("same", "x", "y"), ("not", ring(60, 0, 59))), "y"), (59, [("x", 0)]))
        self.assertEqual([two_words(claim, "y"), no_word(claim, "y")], [(1, [("x", 0)], 0, 1), None])
        late = ("and", ring(60, 0, 59), ("same", "y", "y"))
        self.assertEqual(two_words(late, "y"), (59, [], 0, 1))
        self.assertEqual(mattering(("or", ("same", "x", "x"), ("same", "y", "y")), "y"), None)
        self.assertEqual(mattering(counted(30), "y"), (30, [("x", 1), ("y", 1)], 0))
        for name in ("x", "y", "z"):
            self.assertEqual([two_words(NEVER, name), mattering(NEVER, name)], [None, None])
        self.assertEqual(no_word(NEVER, "x"), (0, [("y", 0), ("z", 0)]))
        self.assertEqual([two_words(("same", "x", 0), "x"), no_word(("same", "x", 0), "x")], [None, None])
        self.assertEqual([two_words(("same", "x", "x"), "x"), mattering(("same", "x", 0), "x")], [(1, [], 0, 1), (1, [("x", 0)], 1)])

    def test_without(self):
        for claim in made_claims(range(400, 430)):
            for name in free_names(claim):
                before = kept(claim)
                less = without(claim, name)
                self.assertEqual(less, ("some", name, before))
                self.assertTrue(have_new_lists([less, without(claim, name)], claim))
                if mattering(claim, name) is None:
                    self.assertIs(are_alike(less, claim), True)
        told = ("told", (1, [[0, 1], [1, 0]], [True, False]), ["x"])
        self.assertTrue(have_new_lists([without(told, "x")], told))
        self.assertEqual(without(("and", BIG, ("top", "x")), "x"), ("some", "x", ("and", BIG, ("top", "x"))))


class BitsTest(unittest.TestCase):

    def test_against_all_fillings_of_small_widths(self):
        found = set()
        for claim in made_claims(range(500, 560)):
            before = kept(claim)
            for name in free_names(claim):
                for bit in (0, 1):
                    for place in (0, 1, 2, 3, 8):
                        told = bit_always(claim, name, place, bit)
                        self.assertIs(is_plain(told), True)
                        self.look_at(claim, name, told, lambda width, word: (plain_bits(width, word) + [0] * 9)[place], bit)
                        found.add(repr(told))
                    told = top_always(claim, name, bit)
                    self.assertIs(is_plain(told), True)
                    self.assertTrue(have_new_lists([told, top_always(claim, name, bit)], claim))
                    self.look_at(claim, name, told, lambda width, word: ([0] + plain_bits(width, word))[-1], bit)
            self.assertEqual(claim, before)
        self.assertGreater(len(found), 10)

    def look_at(self, claim, name, told, reckon, bit):
        for width in range(4):
            wanted = all(reckon(width, dict(filling)[name]) == bit for filling in met(width, claim))
            self.assertIs(has_width(told, width), wanted, (claim, name, width))

    def test_against_sure_widths(self):
        for claim in made_claims(range(600, 620)):
            for name in free_names(claim):
                for place in (0, 5, 8):
                    self.assertEqual(bit_always(claim, name, place, 1), sure_widths(("then", claim, ("bit", place, name))))
                    self.assertEqual(bit_always(claim, name, place, 0), sure_widths(("then", claim, ("not", ("bit", place, name)))))
                self.assertEqual(top_always(claim, name, 1), sure_widths(("then", claim, ("top", name))))
                self.assertEqual(top_always(claim, name, 0), sure_widths(("then", claim, ("not", ("top", name)))))

    def test_the_edges(self):
        same = ("same", "x", "x")
        # A bit beyond the width is 0, and so is the top bit at the width 0.
        self.assertEqual([bit_always(same, "x", 3, 0), bit_always(same, "x", 3, 1)], [([True] * 4, [False]), NONE])
        self.assertEqual([top_always(same, "x", 0), top_always(same, "x", 1)], [([True], [False]), NONE])
        self.assertEqual([bit_always(NEVER, "x", 8, 1), top_always(NEVER, "z", 1)], [ALL, ALL])
        self.assertEqual(bit_always(("same", "x", -1), "x", 8, 1), ([False] * 9, [True]))
        self.assertEqual(top_always(("same", "x", -1), "x", 1), ([False], [True]))


class EqualTest(unittest.TestCase):

    def pairs(self, claim, rule, most=3):
        names = free_names(claim)
        return [(x, y) for x, y in itertools.combinations(names, 2) if all(rule(width, dict(filling)[x], dict(filling)[y])
                for width in range(most + 1) for filling in met(width, claim))]

    def test_against_all_fillings_of_small_widths(self):
        found = {"equal": 0, "turned": 0}
        extra = [NEAT, NEVER, ("and", ("same", "x", "y"), ("same", "z", ("turned", "x"))), ("iff", ("same", "x", "y"), ("same", "x", "z")),
                 ("and", ("same", "y", ("turned", "x")), ("same", "z", ("turned", "y"))), ("same", "x", ("turned", "x"))]
        for claim in list(made_claims(range(700, 760), ("x", "y", "z"))) + extra:
            before = kept(claim)
            most = 3 if len(free_names(claim)) < 3 else 2
            equal, turned = always_equal(claim), always_turned(claim)
            # What holds at these widths may fail at greater ones, but what always holds does so here.
            self.assertLessEqual(set(equal), set(self.pairs(claim, lambda width, x, y: x == y, most)))
            self.assertLessEqual(set(turned), set(self.pairs(claim, lambda width, x, y: x + y == 2 ** width - 1, most)))
            for x, y in itertools.combinations(free_names(claim), 2):
                self.assertIs((x, y) in equal, sure_widths(("then", claim, ("same", x, y))) == ALL)
                self.assertIs((x, y) in turned, sure_widths(("then", claim, ("same", x, ("turned", y)))) == ALL)
            self.assertEqual([equal, turned], [sorted(equal), sorted(turned)])
            self.assertTrue(have_new_lists([equal, turned, always_equal(claim)], claim))
            self.assertEqual(claim, before)
            found["equal"] += len(equal)
            found["turned"] += len(turned)
        self.assertGreater(min(found.values()), 5)

    def test_the_edges(self):
        every = [("x", "y"), ("x", "z"), ("y", "z")]
        self.assertEqual([always_equal(NEVER), always_turned(NEVER)], [every, every])
        self.assertEqual([always_equal(("top", "x")), always_turned(("or",)), always_equal(("and",))], [[], [], []])
        # At the width 0 all words are equal, and each is the other one turned.
        zero = ("and", ("same", 1, 0), ("same", "x", "y"))
        self.assertEqual([always_equal(zero), always_turned(zero)], [[("x", "y")]] * 2)
        once = ("or", zero, ("and", ("same", 2, 0), ("same", "y", ("turned", "x")), ("not", ("same", 1, 0))))
        self.assertEqual([always_equal(once), always_turned(once)], [[], [("x", "y")]])
        four = ("and", ("same", "a", "d"), ("same", "b", "b"), ("same", "c", ("turned", "a")))
        self.assertEqual([always_equal(four), always_turned(four)], [[("a", "d")], [("a", "c"), ("c", "d")]])
        crossed = ("and", ("same", "a", "d"), ("same", "b", "c"))
        self.assertEqual(always_equal(crossed), [("a", "d"), ("b", "c")])


class SumsTest(unittest.TestCase):

    def all_sums(self, names, most):
        for times in itertools.product(range(-most, most + 1), repeat=len(names)):
            terms = [(k, name) for k, name in zip(times, names) if k != 0]
            if terms and terms[0][0] > 0:
                for c in range(-most, most + 1):
                    yield ("sum", terms, c)

    def is_sum(self, width, atom, words):
        return (sum(k * words[name] for k, name in atom[1]) + atom[2]) % 2 ** width == 0

    def test_against_all_fillings_of_small_widths(self):
        claims = list(made_claims(range(800, 830))) + [NEAT, EVEN, ODD, NEVER, ("same", "x", 1), ("same", ("plus", "x", "y"), ("times", 2, "z")),
                                                       ("and", ("same", "x", 0), ("same", ("times", 2, "y"), 0)), ("same", 2, 0)]
        many = 0
        for claim in claims:
            before = kept(claim)
            for most in (1, 2):
                sums = kept_sums(claim, most)
                wanted = list(self.all_sums(free_names(claim), most))
                self.assertEqual([atom for atom in wanted if atom in sums], sums)
                self.assertTrue(have_new_lists([sums, kept_sums(claim, most)], claim))
                good = {width: met(width, claim) for width in range(4)}
                for atom in wanted:
                    first = None
                    for width in range(4):
                        bad = [filling for filling in good[width] if not self.is_sum(width, atom, dict(filling))]
                        first = first or ((width, bad[0]) if bad else None)
                    told = sum_against(claim, atom[1], atom[2])
                    self.assertEqual(None if told is not None and told[0] > 3 else told, first)
                    self.assertIs(told is None, atom in sums)
                many += len(sums)
            self.assertEqual(claim, before)
        self.assertGreater(many, 100)

    def test_by_hand(self):
        self.assertEqual(kept_sums(("same", "x", 1), 1), [("sum", [(1, "x")], -1)])
        self.assertEqual(kept_sums(("same", "x", 1), 2), [("sum", [(1, "x")], -1), ("sum", [(2, "x")], -2)])
        self.assertEqual(kept_sums(EVEN, 1), [])
        self.assertEqual(kept_sums(EVEN, 2), [("sum", [(1, "x"), (-2, "y")], 0)])
        self.assertEqual([kept_sums(("and",), 2), kept_sums(("or",), 1)], [[], []])
        self.assertEqual(kept_sums(("same", ("times", 2, "x"), 0), 2), [("sum", [(2, "x")], 0)])
        self.assertEqual(len(kept_sums(NEVER, 2)), (5 ** 3 - 1) // 2 * 5)
        self.assertEqual(len(kept_sums(NEVER, 1)), (3 ** 3 - 1) // 2 * 3)
        # At the width 0 all sums hold; at the width 1 twice a word is 0.
        self.assertEqual(len(kept_sums(("and", ("same", 1, 0), ("same", "x", "x")), 2)), 10)
        self.assertEqual(kept_sums(("and", ("same", 2, 0), ("same", "x", "x")), 2), [("sum", [(2, "x")], c) for c in (-2, 0, 2)])

    def test_sums_against(self):
        self.assertEqual(sum_against(("same", "x", "x"), [], 0), None)
        self.assertEqual(sum_against(("same", "x", "x"), [], 8), (4, [("x", 0)]))
        self.assertEqual(sum_against(("same", "x", 8), [(1, "x")], -8), None)
        self.assertEqual(sum_against(("same", "x", 8), [(1, "x")], 10 ** 29), (4, [("x", 8)]) if 10 ** 29 % 8 == 0 else None)
        self.assertEqual(sum_against(("same", "x", "y"), [(7, "x"), (-7, "y")], 0), None)
        self.assertEqual(sum_against(("same", "x", "y"), [(7, "x"), (-3, "y")], 0), (3, [("x", 1), ("y", 1)]))
        self.assertEqual(sum_against(NEVER, [(1, "x")], 1), None)
        self.assertEqual(sum_against(("or",), [], 1), None)
        self.assertEqual(sum_against(("and",), [], 1), (1, []))

    def test_claims_of_many_stands(self):
        claim = ("and", ("told", atom_table(("sum", [(5, "x"), (-3, "y"), (-1, "z")], 0), ["x", "y", "z"])[0], ["x", "y", "z"]), ring(13, 0, 12))
        self.assertEqual(kept_sums(claim, 2), [])
        self.assertEqual(sum_against(claim, [(5, "x"), (-3, "y"), (-1, "z")], 0), None)
        self.assertEqual(sum_against(claim, [(5, "x"), (-3, "y"), (-1, "z")], 2 ** 12), (25, [("x", 0), ("y", 0), ("z", 0)]))
        self.assertEqual(sum_against(claim, [(5, "x"), (-3, "y"), (-1, "z")], 2 ** 11), (12, [("x", 0), ("y", 0), ("z", 0)]))


class ErrorsTest(unittest.TestCase):

    NAMED = [(two_words, []), (no_word, []), (mattering, []), (without, []), (bit_always, [0, 1]), (top_always, [1])]

    def refused(self, error, function, *arguments):
        told = raised_by(function, *arguments)
        self.assertIs(told.__class__, error, (function.__name__, arguments))
        return told.value

    def test_claims_and_names(self):
        for wrong in POOL.wrong("claim"):
            for function, more in self.NAMED:
                self.assertIs(self.refused(InvalidClaim, function, wrong, None, *more), wrong)
            for function, more in ((always_equal, []), (always_turned, []), (kept_sums, [9]), (sum_against, [None, None])):
                self.assertIs(self.refused(InvalidClaim, function, wrong, *more), wrong)
        for wrong in ("z", "t1", "", None, 1, ["x"], ("x",), "all"):
            for function, more in self.NAMED:
                self.assertIs(self.refused(InvalidName, function, EVEN, wrong, *more), wrong)
                self.assertIs(self.refused(InvalidName, function, BIG, wrong, *[None for _ in more]), wrong)
        for function, more in self.NAMED:
            self.assertEqual(self.refused(InvalidName, function, ("some", "y", EVEN), "y", *more), "y")

    def test_numbers(self):
        big = ("and", BIG, ("top", "x"))
        for claim in (EVEN, big):
            for wrong in (-1, 9, True, None, "0", 10 ** 29):
                self.assertIs(self.refused(InvalidNumber, bit_always, claim, "x", wrong, 2), wrong)
            for wrong in (-1, 2, True, False, None, "1", [1]):
                self.assertIs(self.refused(InvalidNumber, bit_always, claim, "x", 0, wrong), wrong)
                self.assertIs(self.refused(InvalidNumber, top_always, claim, "x", wrong), wrong)
            for wrong in (0, 3, -1, True, None, "1"):
                self.assertIs(self.refused(InvalidNumber, kept_sums, claim, wrong), wrong)
            for wrong in (True, None, "1", [1]):
                self.assertIs(self.refused(InvalidNumber, sum_against, claim, [(1, "x")], wrong), wrong)

    def test_terms(self):
        for wrong in (None, ((1, "x"),), [(0, "x")], [(True, "x")], [(1, "z")], [(1, "y"), (1, "x")], [(1, "x"), (1, "x")], [[1, "x"]],
                      [("x", 1)], [(1, "x", 1)], [(1, 2)], ["x"], {}, "x"):
            self.assertIs(self.refused(InvalidClaim, sum_against, EVEN, wrong, None), wrong)
            self.assertIs(self.refused(InvalidClaim, sum_against, ("and", BIG, ("below", "x", "y")), wrong, None), wrong)

    def test_claims_whose_tables_are_too_great(self):
        big = ("and", BIG, ("top", "x"))
        for function, more in self.NAMED:
            if function is not without:
                self.assertEqual(self.refused(TooMany, function, big, "x", *more), 2001)
        for function, more in ((always_equal, []), (always_turned, []), (kept_sums, [1]), (sum_against, [[(1, "x")], 0])):
            self.assertEqual(self.refused(TooMany, function, big, *more), 2001)


if __name__ == "__main__":
    unittest.main()
