"""Promises 4 and 6: names, words, expressions and claims as data."""

import unittest

from howeverwide.errors import InvalidFilling, InvalidNumber, InvalidWord
from howeverwide.meaning import holds
from howeverwide.words import bits_of, free_names, how_many_knots, is_claim, is_expression, is_filling, is_name
from howeverwide.words import is_word, names_of_expression, swept, word_of_bits
from tests.support import Maker, fillings, have_new_lists, nested, plain_bits, plainly_holds

BIG = 10 ** 30 - 1


class NamesTest(unittest.TestCase):

    def test_letters_with_a_count_behind(self):
        for name in ("a", "z", "abcdef", "x0", "x9", "x10", "x9999", "abcdef1234", "allx", "ors", "al", "all0", "top1",
                     "below", "same", "plus", "carry"):
            self.assertIs(is_name(name), True, name)

    def test_what_is_none(self):
        for name in ("", "abcdefg", "x00", "x01", "x012", "x10000", "X", "xY", "x_", "x 1", " x", "x ", "x1y", "1", "1x",
                     "x-1", "x\n", "\t", "~", 5, None, ["x"], ("x",), True):
            self.assertIs(is_name(name), False, name)

    def test_words_that_are_no_names(self):
        for name in ("all", "and", "bit", "iff", "not", "or", "some", "then", "told", "top", "under"):
            self.assertIs(is_name(name), False, name)
            self.assertIs(is_name(name + "1"), True, name)


class ExpressionsTest(unittest.TestCase):

    def test_each_kind(self):
        for value in ("x", 0, -1000, 1001, BIG, -BIG, ("plus", "x", 1), ("minus", 1, "x"), ("times", -100, "x"),
                      ("times", 0, 0), ("times", BIG, "x"), ("both", "x", "x"), ("either", 1, 2), ("unlike", "x", "y"),
                      ("turned", "x"), ("up", 0, "x"), ("up", 9, "x"), ("down", BIG, "x"), ("down", 8, ("up", 8, "x"))):
            self.assertIs(is_expression(value), True, value)

    def test_what_is_none(self):
        for value in (True, None, "all", "", [], (), ("plus",), ("plus", "x"), ("plus", "x", "y", "z"), ["plus", "x", "y"],
                      ("times", "x", 3), ("times", True, "x"), ("up", -1, "x"), ("up", "x", 1), ("up", False, "x"),
                      ("turned", "x", "y"), ("turned", ("top", "x")), ("plus", "x", True), (["plus"], "x", "y"),
                      ({}, 1), (1, 2), ("same", "x", "y"), ("top", "x"), ("Plus", "x", "y")):
            self.assertIs(is_expression(value), False, value)

    def test_names(self):
        self.assertEqual(names_of_expression(5), [])
        self.assertEqual(names_of_expression(("plus", ("times", 3, "x10"), ("both", "x2", ("turned", "x10")))), ["x10", "x2"])


class ClaimsTest(unittest.TestCase):

    EMPTY = (0, [[0]], [True])

    def test_each_kind(self):
        top = ("top", "x")
        for value in (("same", 1, 2), ("below", "x", "y"), ("under", "x", ("plus", "x", "y")), ("bit", 0, "x"),
                      ("bit", 9, 1), ("bit", BIG, "x"), top, ("not", top), ("and",), ("or",), ("and", top), ("or", top, top, top),
                      ("then", top, top), ("iff", top, top), ("some", "x", top), ("all", "y", top), ("told", self.EMPTY, [])):
            self.assertIs(is_claim(value), True, value)

    def test_what_is_none(self):
        top = ("top", "x")
        for value in ("x", 1, ("same", "x"), ("same", "x", top), ("bit", -1, "x"), ("bit", "x", 1), ("top",), ("not",),
                      ("not", top, top), ("not", "x"), ("and", top, "x"), ["and"], ("then", top), ("iff", top, top, top),
                      ("some", 1, top), ("some", "all", top), ("some", ["x"], top), ("all", "x", "x"), ("all", "x"),
                      ("told", self.EMPTY), ("told", self.EMPTY, ()), ("told", self.EMPTY, ["x"]), ("told", 5, []),
                      ("told", (7, [[0] * 128], [True]), list("abcdefg")), ("plus", "x", "y"), (("and",),)):
            self.assertIs(is_claim(value), False, value)

    def test_told_names_in_any_order_but_each_once(self):
        table = (3, [[0] * 8], [True])
        self.assertIs(is_claim(("told", table, ["z", "x", "y"])), True)
        self.assertIs(is_claim(("told", table, ["z", "x", "z"])), False)
        self.assertEqual(free_names(("told", table, ["z", "x", "y"])), ["x", "y", "z"])

    def test_free_names(self):
        self.assertEqual(free_names(("and", ("some", "x", ("below", "x", "y")), ("top", "x"))), ["x", "y"])
        self.assertEqual(free_names(("some", "x", ("and", ("all", "x", ("top", "x")), ("top", "x")))), [])
        self.assertEqual(free_names(("some", "x", ("told", (2, [[0] * 4], [True]), ["y", "x"]))), ["y"])
        self.assertEqual(free_names(("same", 1, 2)), [])

    def test_knots(self):
        self.assertEqual(how_many_knots(("and",)), 1)
        self.assertEqual(how_many_knots(("bit", 3, ("times", 5, ("up", 2, "x")))), 4)
        self.assertEqual(how_many_knots(("some", "x", ("told", (1, [[0, 0]], [True]), ["x"]))), 2)
        self.assertEqual(how_many_knots(("or", ("and",), ("same", "x", 7), ("not", ("and",)))), 7)
        self.assertEqual(how_many_knots(nested(lambda inner: ("not", inner), ("top", "x"), 27)), 29)


class WordsTest(unittest.TestCase):

    def test_words_of_widths(self):
        for width in (0, 1, 2, 7, 63, 64):
            for value in (0, 2 ** width - 1):
                self.assertIs(is_word(width, value), True)
            for value in (-1, 2 ** width, True, False, None, "0", [0]):
                self.assertIs(is_word(width, value), False)

    def test_bits_there_and_back(self):
        for width in range(6):
            for word in range(2 ** width):
                self.assertEqual(bits_of(width, word), plain_bits(width, word))
                self.assertEqual(word_of_bits(bits_of(width, word)), word)
        self.assertEqual(bits_of(64, 2 ** 64 - 1), [1] * 64)
        self.assertEqual(word_of_bits([0] * 63 + [1]), 2 ** 63)
        for bits in ([0] * 65, [2], [True], (0, 1), [0, -1], "01"):
            with self.assertRaises(InvalidNumber) as caught:
                word_of_bits(bits)
            self.assertIs(caught.exception.value, bits)
        with self.assertRaises(InvalidWord):
            bits_of(0, 1)

    def test_fillings(self):
        self.assertIs(is_filling(0, [], []), True)
        self.assertIs(is_filling(64, ["x"], [("x", 2 ** 64 - 1)]), True)
        self.assertIs(is_filling(2, ["x10", "x2"], [("x10", 3), ("x2", 0)]), True)
        for value in ([], [("x", 4)], [("x", 3), ("x", 3)], [("y", 3)], [("x",)], [("x", 3, 0)], [["x", 3]], (("x", 3),),
                      [("x", True)], [("x", -1)], {"x": 3}, None):
            self.assertIs(is_filling(2, ["x"], value), False, value)

    def test_fillings_must_have_just_the_free_names(self):
        for filling in ([], [("x", 1), ("y", 1)]):
            with self.assertRaises(InvalidFilling) as caught:
                holds(2, ("some", "y", ("below", "x", "y")), filling)
            self.assertIs(caught.exception.value, filling)


class SweptTest(unittest.TestCase):

    def words_in(self, claim):
        if not isinstance(claim, tuple):
            return []
        return [claim[0]] + [word for part in claim[1:] for word in self.words_in(part)]

    def test_nothing_is_left_and_it_means_the_same(self):
        for seed in range(300):
            claim = Maker(seed).claim(3)
            made = swept(claim)
            self.assertIs(is_claim(made), True)
            self.assertFalse({"then", "all"} & set(self.words_in(made)))
            self.assertEqual(free_names(made), free_names(claim))
            self.assertTrue(have_new_lists(made, claim))
            for width in (0, 1, 2):
                for filling in fillings(free_names(claim), width):
                    self.assertEqual(plainly_holds(width, made, dict(filling)), plainly_holds(width, claim, dict(filling)))

    def test_all_else_stays(self):
        claim = ("iff", ("some", "x", ("and", ("top", "x"))), ("or", ("not", ("bit", 2, ("turned", "x"))), ("or",)))
        self.assertEqual(swept(claim), claim)
        inner = ("all", "y", ("then", ("top", "y"), ("and",)))
        wanted = ("or", ("not", ("not", ("some", "y", ("not", ("or", ("not", ("top", "y")), ("and",)))))), ("or",))
        self.assertEqual(swept(("then", inner, ("or",))), wanted)


if __name__ == "__main__":
    unittest.main()
