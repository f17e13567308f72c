"""Promises 25 to 28: gathered sums, pieces, claims taken apart."""

import unittest

from howeverwide.atoms import is_atom
from howeverwide.errors import InvalidClaim, InvalidExpression, InvalidFilling, InvalidWidth
from howeverwide.meaning import value
from howeverwide.pieces import free_in_piece, gathered, is_piece, most_names, piece_holds, piece_of
from howeverwide.words import free_names, names_of_expression
from tests.plain_pieces import inner_pieces, plain_piece_holds, plain_piece_of, plainly_free
from tests.support import POOL, Maker, fillings, have_new_lists, kept, nested, plainly_holds, raised_by

BIG = 10 ** 30 - 1
BOTH, EITHER, DOWN = ("both", "x", "y"), ("either", "y", 1), ("down", 2, ("plus", "x", 1))
EVEN = (1, [[0, 1], [1, 0]], [True, False])


def made_piece(maker, deep):
    """Make a piece of atoms by "not", "and", "or", "iff" and "some"."""
    pick = maker.random.choice
    if deep == 0 or maker.random.random() < 0.2:
        return maker.atom()
    word = pick(["not", "and", "or", "iff", "some", "some"])
    if word == "some":
        return (word, pick(maker.names), made_piece(maker, deep - 1))
    many = {"not": 1, "iff": 2}.get(word, maker.random.randint(0, 3))
    return (word, *[made_piece(maker, deep - 1) for _ in range(many)])


class GatheredTest(unittest.TestCase):

    def test_parts_add_up(self):
        self.assertEqual(gathered(7), ([], 7))
        self.assertEqual(gathered("x"), ([(1, "x")], 0))
        self.assertEqual(gathered(("plus", "y", ("plus", "x", "y"))), ([(1, "x"), (2, "y")], 0))
        self.assertEqual(gathered(("minus", "x", ("minus", "y", 3))), ([(1, "x"), (-1, "y")], 3))
        self.assertEqual(gathered(("times", -3, ("plus", "x", 2))), ([(-3, "x")], -6))
        self.assertEqual(gathered(("up", 3, ("minus", 1, "x"))), ([(-8, "x")], 8))
        self.assertEqual(gathered(("turned", ("turned", "x"))), ([(1, "x")], 0))
        self.assertEqual(gathered(("turned", 0)), ([], -1))
        self.assertEqual(gathered(("times", 5, ("turned", "x"))), ([(-5, "x")], -5))

    def test_names_ahead_of_parts_that_are_not_taken_apart(self):
        whole = ("plus", BOTH, ("plus", "z", ("plus", EITHER, ("plus", "a10", ("plus", "a9", DOWN)))))
        self.assertEqual(gathered(whole), ([(1, "a10"), (1, "a9"), (1, "z"), (1, BOTH), (1, EITHER), (1, DOWN)], 0))
        for part in (BOTH, EITHER, DOWN, ("unlike", ("plus", "x", 1), 2), ("down", 0, "x")):
            self.assertEqual(gathered(part), ([(1, part)], 0))
            self.assertEqual(gathered(("minus", ("up", 2, part), part)), ([(3, part)], 0))
        self.assertEqual(gathered(("plus", ("both", "x", "y"), ("both", "y", "x")))[0], [(1, BOTH), (1, ("both", "y", "x"))])

    def test_parts_that_come_to_0_keep_their_place(self):
        first, last = ("both", "x", 1), ("either", "x", 1)
        away = ("plus", ("minus", first, first), last)
        self.assertEqual(gathered(away), ([(1, last)], 0))
        self.assertEqual(gathered(("plus", away, ("times", 2, first))), ([(2, first), (1, last)], 0))
        self.assertEqual(gathered(("plus", ("times", 0, first), ("plus", last, first))), ([(1, first), (1, last)], 0))
        self.assertEqual(gathered(("plus", ("times", 0, ("up", 3, first)), ("minus", last, first))), ([(-1, first), (1, last)], 0))
        self.assertEqual(gathered(("times", 0, ("plus", "x", ("plus", first, 4)))), ([], 0))
        self.assertEqual(gathered(("minus", "x", "x")), ([], 0))
        self.assertEqual(gathered(("plus", last, ("plus", ("minus", first, last), last))), ([(1, last), (1, first)], 0))

    def test_numbers_of_30_figures(self):
        self.assertEqual(gathered(("times", BIG, ("plus", "x", BIG))), ([(BIG, "x")], BIG * BIG))
        self.assertEqual(gathered(("times", -BIG, ("turned", "x"))), ([(BIG, "x")], BIG))
        deep = nested(lambda inner: ("times", BIG, inner), BOTH, 11)
        self.assertEqual(gathered(deep), ([(BIG ** 11, BOTH)], 0))
        self.assertEqual(gathered(("times", 0, ("up", BIG, ("plus", "x", 1)))), ([], 0))

    def test_against_values(self):
        for seed in range(400):
            maker = Maker(seed, ("x", "y"))
            expression = maker.expression(4)
            before = kept(expression)
            terms, c = gathered(expression)
            self.assertEqual(expression, before)
            parts = [part for _, part in terms]
            names = [part for part in parts if isinstance(part, str)]
            self.assertEqual(parts[:len(names)], sorted(names))
            self.assertTrue(all(part[0] in ("both", "either", "unlike", "down") for part in parts[len(names):]))
            self.assertTrue(all(part not in parts[:place] for place, part in enumerate(parts)))
            self.assertTrue(all(k != 0 for k, _ in terms))
            for width in range(4):
                for filling in fillings(names_of_expression(expression), width):
                    words = dict(filling)
                    told = [k * value(width, part, [(name, words[name]) for name in names_of_expression(part)]) for k, part in terms]
                    self.assertEqual((c + sum(told)) % 2 ** width, value(width, expression, filling))


class PiecesTest(unittest.TestCase):

    def test_what_is_a_piece(self):
        for entry, kinds in POOL.entries:
            if is_atom(entry):
                self.assertIs(is_piece(entry), True)
        for seed in range(200):
            self.assertIs(is_piece(made_piece(Maker(seed), 4)), True)
        top = ("top", "x")
        for piece in (("and",), ("or",), ("and", top), ("or", top, top, top), ("not", ("and",)), ("iff", top, ("or",)),
                      ("some", "y", top), ("some", "x", ("some", "x", top)), ("sum", [], 0), ("down", 30, "x", "x")):
            self.assertIs(is_piece(piece), True)
        for wrong in (("not",), ("not", top, top), ("iff", top), ("iff", top, top, top), ("some", top), ("some", "all", top),
                      ("some", "x", top, top), ("all", "x", top), ("then", top, top), ("same", "x", "y"), ("and", "x"),
                      ("or", top, ("same", "x", 1)), ("not", ("below", "x", 1)), ["and"], ("and", [top]), ("some", "x", "x"),
                      ("sum", [(1, "y"), (1, "x")], 0), ("top", ("plus", "x", 1)), ("bit", True, "x"), "x", 1, (), None, True):
            self.assertIs(is_piece(wrong), False, wrong)
        self.assertIs(is_piece(nested(lambda inner: ("and", inner, inner, inner), ("top", 1), 28)), False)
        self.assertIs(is_piece(nested(lambda inner: ("not", inner), top, 29)), True)

    def test_holding_and_free_names(self):
        for seed in range(250):
            maker = Maker(seed, ("x", "y"))
            piece = made_piece(maker, 3)
            names = free_in_piece(piece)
            self.assertEqual(names, sorted(plainly_free(piece)))
            for width in range(3):
                for filling in fillings(names, width):
                    self.assertIs(piece_holds(width, piece, filling), plain_piece_holds(width, piece, dict(filling)))

    def test_a_bound_name_hides_the_free_one(self):
        piece = ("and", ("top", "x"), ("some", "x", ("below", "x", "y")))
        self.assertEqual(free_in_piece(piece), ["x", "y"])
        self.assertIs(piece_holds(2, piece, [("x", 2), ("y", 1)]), True)
        self.assertIs(piece_holds(2, piece, [("x", 2), ("y", 0)]), False)
        self.assertIs(piece_holds(2, ("some", "x", ("some", "x", ("top", "x"))), []), True)
        self.assertIs(piece_holds(0, ("some", "x", ("top", "x")), []), False)

    def test_limits(self):
        self.assertIs(piece_holds(12, ("some", "y", ("and", ("top", "y"), ("sum", [(1, "x"), (-3, "y")], 1))), [("x", 4087)]), True)
        self.assertIs(piece_holds(64, ("not", ("below", "x", "y")), [("x", 2 ** 64 - 1), ("y", 2 ** 64 - 2)]), True)
        self.assertIs(piece_holds(3, nested(lambda inner: ("some", "z", inner), ("or",), 4), []), False)

    def test_wrong_fillings(self):
        piece = ("some", "x", ("below", "x", "y"))
        for filling in ([], [("x", 1)], [("x", 1), ("y", 1)], [("y", 4)], [("y", True)], (("y", 1),), None):
            error = raised_by(piece_holds, 2, piece, filling)
            self.assertIs(error.__class__, InvalidFilling)
            self.assertIs(error.value, filling)
        self.assertIs(raised_by(piece_holds, 65, None, None).__class__, InvalidWidth)
        self.assertIs(raised_by(piece_holds, 64, ("same", "x", 1), None).__class__, InvalidClaim)
        for wrong in (("same", "x", 1), ("and", "x"), None, ("not",)):
            for function in (free_in_piece, most_names):
                error = raised_by(function, wrong)
                self.assertIs(error.__class__, InvalidClaim)
                self.assertIs(error.value, wrong)
        self.assertIs(raised_by(gathered, ("same", "x", 1)).__class__, InvalidExpression)


class TakenApartTest(unittest.TestCase):

    def test_each_kind_of_claim(self):
        less = ("sum", [(1, "x"), (-1, "y")], 0)
        self.assertEqual(piece_of(("same", "x", "y")), less)
        self.assertEqual(piece_of(("same", "x", "x")), ("sum", [], 0))
        self.assertEqual(piece_of(("same", 3, ("times", 0, "x"))), ("sum", [], 3))
        self.assertEqual(piece_of(("same", ("turned", "x"), ("up", 1, "y"))), ("sum", [(-1, "x"), (-2, "y")], -1))
        for claim in (("below", "x", "y"), ("under", "y", "x"), ("bit", 3, "x"), ("top", "x"), ("told", EVEN, ["x"]), ("and",), ("or",)):
            self.assertEqual(piece_of(claim), claim)
        one = ("some", "t1", ("and", ("sum", [(-1, "t1")], 1), ("top", "t1")))
        self.assertEqual(piece_of(("top", 1)), one)
        self.assertEqual(piece_of(("bit", 2, 1)), ("some", "t1", ("and", ("sum", [(-1, "t1")], 1), ("bit", 2, "t1"))))
        self.assertEqual(piece_of(("under", 1, "x")), ("some", "t1", ("and", ("sum", [(-1, "t1")], 1), ("under", "t1", "x"))))
        same = ("same", "x", "y")
        self.assertEqual(piece_of(("then", same, ("top", 1))), ("or", ("not", less), one))
        self.assertEqual(piece_of(("iff", same, ("all", "z", ("top", "z")))),
                         ("iff", less, ("not", ("some", "z", ("not", ("top", "z"))))))
        self.assertEqual(piece_of(("or", same, ("not", same), ("and", same))), ("or", less, ("not", less), ("and", less)))

    def test_what_tells_an_expression(self):
        self.assertEqual(piece_of(("top", ("both", "x", "y"))),
                         ("some", "t1", ("and", ("bits", "both", "t1", "x", "y"), ("top", "t1"))))
        self.assertEqual(piece_of(("top", ("down", 3, "x"))), ("some", "t1", ("and", ("down", 3, "t1", "x"), ("top", "t1"))))
        three = ("some", "t2", ("and", ("sum", [(-1, "t2")], 3), ("down", 1, "t1", "t2")))
        self.assertEqual(piece_of(("top", ("down", 1, 3))), ("some", "t1", ("and", three, ("top", "t1"))))
        self.assertEqual(piece_of(("top", ("turned", "x"))),
                         ("some", "t1", ("and", ("sum", [(-1, "t1"), (-1, "x")], -1), ("top", "t1"))))
        # Equal expressions are each given a name of their own, equal parts of a sum one together.
        ones = ("some", "t3", ("and", ("sum", [(-1, "t3")], 1), ("bits", "unlike", "t1", "t2", "t3")))
        ones = ("some", "t2", ("and", ("sum", [(-1, "t2")], 1), ones))
        self.assertEqual(piece_of(("top", ("unlike", 1, 1))), ("some", "t1", ("and", ones, ("top", "t1"))))
        both = ("both", "x", "y")
        self.assertEqual(piece_of(("same", both, ("minus", "x", both))),
                         ("some", "t1", ("and", ("bits", "both", "t1", "x", "y"), ("sum", [(2, "t1"), (-1, "x")], 0))))

    def test_names_that_are_made(self):
        piece = piece_of(("below", ("plus", ("both", "x", 1), 2), ("either", "y", 3)))
        self.assertEqual([name for name in somes(piece)], ["t1", "t2", "t3", "t4", "t5"])
        one = ("some", "t3", ("and", ("sum", [(-1, "t3")], 1), ("bits", "both", "t2", "x", "t3")))
        plus = ("some", "t2", ("and", one, ("sum", [(-1, "t1"), (1, "t2")], 2)))
        three = ("some", "t5", ("and", ("sum", [(-1, "t5")], 3), ("bits", "either", "t4", "y", "t5")))
        self.assertEqual(piece, ("some", "t1", ("and", plus, ("some", "t4", ("and", three, ("below", "t1", "t4"))))))
        self.assertEqual(somes(piece_of(("and", ("top", 1), ("below", "t1", 2), ("some", "t3", ("top", "t3"))))), ["t2", "t4", "t3"])
        self.assertEqual(somes(piece_of(("and", ("told", EVEN, ["t2"]), ("top", 1), ("top", 1)))), ["t1", "t3"])
        self.assertEqual(somes(piece_of(("all", "t1", ("top", ("plus", "x", 1))))), ["t1", "t2"])
        # In order of all names: "t10" stands ahead of "t9", and of "x".
        terms = [f"t{number}" for number in range(1, 9)]
        whole = nested(lambda inner: ("plus", ("both", inner, 1), inner), "x", 1)
        for name in terms:
            whole = ("plus", whole, name)
        whole = ("plus", ("down", 1, "x"), whole)
        piece = piece_of(("same", whole, 0))
        self.assertEqual(somes(piece), ["t9", "t10", "t11"])
        inner = piece[2][2][2][2]
        self.assertEqual([name for _, name in inner[1]], sorted(terms + ["t9", "t10", "x"]))

    def test_against_a_plain_reading(self):
        for seed in range(600):
            claim = Maker(seed, ("x", "y", "t1")).claim(4)
            before = kept(claim)
            piece = piece_of(claim)
            self.assertEqual(piece, plain_piece_of(claim))
            self.assertEqual([claim, is_piece(piece)], [before, True])
            self.assertTrue(have_new_lists(piece, claim))
            self.assertLessEqual(set(free_in_piece(piece)), set(free_names(claim)))

    def test_against_the_claim(self):
        looked = 0
        for seed in range(300):
            claim = Maker(seed, ("x", "y")).claim(2, 1)
            piece = piece_of(claim)
            for width in range(3):
                if width * somes_within(piece) > 7:
                    continue
                for filling in fillings(free_names(claim), width):
                    inner = [item for item in filling if item[0] in free_in_piece(piece)]
                    self.assertIs(piece_holds(width, piece, inner), plainly_holds(width, claim, dict(filling)), (claim, filling))
                    looked += 1
        self.assertGreater(looked, 2000)

    def test_most_names(self):
        below, wide = ("below", "x", "y"), ("sum", [(1, "a"), (1, "b"), (1, "c")], 0)
        self.assertEqual([most_names(("and",)), most_names(below), most_names(("below", "x", "x"))], [0, 2, 1])
        self.assertEqual(most_names(("some", "x", below)), 2)
        self.assertEqual(most_names(("and", ("some", "a", ("some", "b", ("some", "c", wide))), below)), 3)
        self.assertEqual(most_names(("iff", below, wide)), 5)
        for seed in range(200):
            piece = made_piece(Maker(seed), 4)
            self.assertEqual(most_names(piece), max(len(plainly_free(one)) for one in all_pieces(piece)))

    def test_sums_of_names_need_two_more_at_most(self):
        for seed in range(200):
            maker = Maker(seed)
            sides = [sum_of_names(maker, 3) for _ in range(2)]
            many = len({name for side in sides for name in names_of_expression(side)})
            for word in ("same", "below", "under"):
                self.assertLessEqual(most_names(piece_of((word, *sides))), many + 2)


def sum_of_names(maker, deep):
    pick = maker.random.choice
    if deep == 0:
        return pick(maker.names + [maker.random.randint(-9, 9)])
    return (pick(["plus", "minus"]), sum_of_names(maker, deep - 1), sum_of_names(maker, deep - 1))


def all_pieces(piece):
    return [piece] + [one for part in inner_pieces(piece) for one in all_pieces(part)]


def somes(piece):
    """The bound names of a piece, read from the left."""
    return [one[1] for one in all_pieces(piece) if one[0] == "some"]


def somes_within(piece):
    """How many "some"s of a piece stand within one another."""
    return (piece[0] == "some") + max([somes_within(part) for part in inner_pieces(piece)], default=0)


if __name__ == "__main__":
    unittest.main()
