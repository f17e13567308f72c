"""Promise 7: texts, there and back."""

import itertools
import unittest

from howeverwide.errors import InvalidText
from howeverwide.texts import claim_of_text, expression_of_text, text_of_claim, text_of_expression
from tests.support import Maker, have_new_lists, nested, raised_by

EXPRESSIONS = {
    "x12": "x12",
    "0": 0,
    "-1000": -1000,
    "999999999999999999999999999999": 10 ** 30 - 1,
    "(x + -3)": ("plus", "x", -3),
    "(-3 - x)": ("minus", -3, "x"),
    "(3 * x)": ("times", 3, "x"),
    "(-3 * -4)": ("times", -3, -4),
    "(x & y)": ("both", "x", "y"),
    "(x | (y ^ z))": ("either", "x", ("unlike", "y", "z")),
    "!!x": ("turned", ("turned", "x")),
    "!-1": ("turned", -1),
    "((x + 1) << 8)": ("up", 8, ("plus", "x", 1)),
    "(!5 >> 0)": ("down", 0, ("turned", 5)),
    "((3 << 4) << 5)": ("up", 5, ("up", 4, 3)),
}
CLAIMS = {
    "x = y": ("same", "x", "y"),
    "-1 < (x + y)": ("below", -1, ("plus", "x", "y")),
    "x under 0": ("under", "x", 0),
    "bit 3 !x": ("bit", 3, ("turned", "x")),
    "top (x - y)": ("top", ("minus", "x", "y")),
    "not [and]": ("not", ("and",)),
    "and": ("and",),
    "or": ("or",),
    "and [top x]": ("and", ("top", "x")),
    "or [top x] [and [or]] [or]": ("or", ("top", "x"), ("and", ("or",)), ("or",)),
    "[and] then [or]": ("then", ("and",), ("or",)),
    "[[top x] iff [top y]] iff [top z]": ("iff", ("iff", ("top", "x"), ("top", "y")), ("top", "z")),
    "some x [all y [x < y]]": ("some", "x", ("all", "y", ("below", "x", "y"))),
    "and1 = all2": ("same", "and1", "all2"),
    "told1 < top0": ("below", "told1", "top0"),
    "told 0:0:1": ("told", (0, [[0]], [True]), []),
    "told 2:0,0,1,0/1,0,1,1:01 y x": ("told", (2, [[0, 0, 1, 0], [1, 0, 1, 1]], [False, True]), ["y", "x"]),
}


class TextsTest(unittest.TestCase):

    def test_there_and_back(self):
        for text, expression in EXPRESSIONS.items():
            self.assertEqual(text_of_expression(expression), text)
            self.assertEqual(expression_of_text(text), expression)
        for text, claim in CLAIMS.items():
            self.assertEqual(text_of_claim(claim), text)
            self.assertEqual(claim_of_text(text), claim)

    def test_made_ones_there_and_back(self):
        seen = {}
        for seed in range(1500):
            maker = Maker(seed)
            expression, claim = maker.expression(5), maker.claim(5)
            self.assertEqual(expression_of_text(text_of_expression(expression)), expression)
            text = text_of_claim(claim)
            self.assertEqual(claim_of_text(text), claim)
            self.assertEqual(seen.setdefault(text, claim), claim)
            self.assertTrue(have_new_lists(claim_of_text(text), claim))

    def test_what_is_no_text(self):
        for text in ("", " ", "x y", " x", "x ", "X", "all", "x012", "-", "-0", "00", "01", "--1", "+1", "1.0", "(x)", "(x+y)",
                     "(x + y", "(x + y))", "x + y", "(x * 3)", "(x * y)", "((1 + 1) * x)", "(x << y)", "(x << -1)",
                     "(x << 01)", "(3 <<  x)", "! x", "!", "(x % y)", "x\n", "\tx", "()", "(x + )", "(01 * x)", "top x"):
            self.refused(expression_of_text, text)
        for text in ("", "x", "x = ", "x  = y", "x=y", "x = y ", " x = y", "x > y", "bit x", "bit -1 x", "bit 01 x", "bit 0",
                     "top", "top  x", "not", "not [top x", "not top x", "not [top x] [top x]", "and [top x][top x]",
                     "and  [top x]", "and []", "[top x]", "[top x] and [top x]", "[top x] then", "[top x] then top x",
                     "some [top x]", "some all [top x]", "some x top x", "some x[top x]", "all x [top x]]", "under x y",
                     "told", "told 1:0,0:1", "told 1:0,0:1 x y", "told 0:0:1 x", "told 1:0,1:1 x", "told 1:0:1 x",
                     "told 1:0,0:10 x", "told 1:0,0:2 x", "told 1:00,0:1 x", "told 01:0,0:1 x", "told 1:0,0:1:1 x",
                     "told 1::1 x", "told ::", "told 1:0,,0:1 x", "told 1:0,0/:1 x", "told 2:0,0,0,0:1 x x", "told 1:0,0: x",
                     "told 7:" + ",".join(["0"] * 128) + ":1 a b c d e f g", "told 999999999:0:1", "told 0:0:1 "):
            self.refused(claim_of_text, text)

    def refused(self, function, text):
        with self.subTest(text=text), self.assertRaises(InvalidText) as caught:
            function(text)
        self.assertIs(caught.exception.value, text)

    def test_what_is_one_sign_longer_or_shorter_is_another_text_or_none(self):
        for text in CLAIMS:
            for place in range(len(text) + 1):
                for other in (text[:place] + text[place + 1:], text[:place] + " " + text[place:], text[:place]):
                    try:
                        claim = claim_of_text(other)
                    except InvalidText:
                        continue
                    self.assertEqual(text_of_claim(claim), other)

    def test_what_has_another_sign_is_another_text_or_none(self):
        for text in CLAIMS:
            for place in range(len(text)):
                for sign in ",/:0189 -[](!xz_\n":
                    other = text[:place] + sign + text[place + 1:]
                    error = raised_by(claim_of_text, other)
                    if error is None:
                        self.assertEqual(text_of_claim(claim_of_text(other)), other)
                    else:
                        self.assertIs(error.__class__, InvalidText, other)
                        self.assertIs(error.value, other)

    def test_whatever_stands_for_the_figures_of_a_told_table(self):
        """All short texts of these signs behind "told", and within another claim: each is refused, or just the text of a claim."""
        read = []
        for many in range(8):
            for signs in itertools.product(",/:01", repeat=many):
                told = "told " + "".join(signs)
                for text in (told, told + " x", f"not [{told}]"):
                    error = raised_by(claim_of_text, text)
                    if error is None:
                        self.assertEqual(text_of_claim(claim_of_text(text)), text)
                        read.append(text)
                    else:
                        self.assertIs(error.__class__, InvalidText, text)
                        self.assertIs(error.value, text)
        self.assertEqual(read, ["told 0:0:0", "not [told 0:0:0]", "told 0:0:1", "not [told 0:0:1]", "told 1:0,0:0 x",
                                "told 1:0,0:1 x"])

    def test_thirty_knots_within_one_another(self):
        self.assertEqual(expression_of_text("!" * 29 + "x"), nested(lambda inner: ("turned", inner), "x", 29))
        self.refused(expression_of_text, "!" * 30 + "x")
        self.assertEqual(claim_of_text("top " + "!" * 28 + "x"), ("top", nested(lambda inner: ("turned", inner), "x", 28)))
        self.refused(claim_of_text, "top " + "!" * 29 + "x")
        for before, behind in (("bit 0 ", ""), ("", " = x"), ("x = ", ""), ("", " < x"), ("x < ", ""), ("x under ", "")):
            text = before + "!" * 28 + "x" + behind
            self.assertEqual(text_of_claim(claim_of_text(text)), text)
            self.refused(claim_of_text, before + "!" * 29 + "x" + behind)
        for before, behind in (("not [", "]"), ("[", "] then [or]"), ("[or] iff [", "]"), ("some x [", "]"), ("and [", "]")):
            self.assertEqual(text_of_claim(claim_of_text(before * 29 + "or" + behind * 29)), before * 29 + "or" + behind * 29)
            self.refused(claim_of_text, before * 30 + "or" + behind * 30)
            self.refused(claim_of_text, before * 29 + "top x" + behind * 29)
        told = "told 0:0:1"
        self.assertEqual(claim_of_text("not [" * 29 + told + "]" * 29)[0], "not")
        times = "(2 * " * 29 + "x" + ")" * 29
        self.assertEqual(text_of_expression(expression_of_text(times)), times)
        self.refused(expression_of_text, "(2 * " + times + ")")
        ups = "(" * 29 + "x" + " << 3)" * 29
        self.assertEqual(text_of_expression(expression_of_text(ups)), ups)
        self.refused(expression_of_text, "(" + ups + " << 3)")

    def test_deeper_ones_still_have_a_text(self):
        self.assertEqual(text_of_expression(nested(lambda inner: ("turned", inner), "x", 30)), "!" * 30 + "x")
        self.assertEqual(text_of_claim(nested(lambda inner: ("not", inner), ("or",), 29)), "not [" * 29 + "or" + "]" * 29)

    def test_long_texts_are_told_quickly(self):
        for text in ("!" * 5000, "(" * 5000, "[" * 5000, "not [" * 2000, "x" * 5000, "9" * 5000, "and [" * 3000 + "]" * 3000,
                     "told " + "1" * 5000 + ":0,0:1 x"):
            self.refused(claim_of_text, text)
            self.refused(expression_of_text, text)
        many = " ".join(["and"] + ["[x = y]"] * 2000)
        self.assertEqual(len(claim_of_text(many)), 2001)


if __name__ == "__main__":
    unittest.main()
