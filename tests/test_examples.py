"""All examples that the document shows for these modules, with just the answers that it shows."""

import unittest

from howeverwide.atoms import atom_table, carries_met, carry_bounds, first_label, holds_plainly, is_atom, is_good
from howeverwide.atoms import label_behind, label_of, most_stands, names_in
from howeverwide.joins import every, joined, placed, some, turned
from howeverwide.meaning import holds, value
from howeverwide.puts import are_renamings, plain_bound, put_in, renamed
from howeverwide.tables import alike_stands, first_taken, is_least, is_table, least, list_table, parting_row, reached
from howeverwide.tables import row_of, rows_to, stand_behind, takes, words_of
from howeverwide.texts import claim_of_text, expression_of_text, text_of_claim, text_of_expression
from howeverwide.words import bits_of, free_names, how_many_knots, is_claim, is_expression, is_filling, is_name
from howeverwide.words import is_word, names_of_expression, swept, word_of_bits

BACK = ("all", "x", ("some", "y", ("same", ("plus", "x", "y"), "z")))
HALF = ("some", "y", ("same", ("times", 2, "y"), "x"))
EVEN = (1, [[0, 1], [1, 0]], [True, False])
LESS = (2, [[0, 0, 1, 0], [1, 0, 1, 1]], [False, True])
WIDE = (1, [[1, 2], [3, 0], [0, 3], [1, 2]], [True, False, False, True])
ADD = ("sum", [(1, "x"), (1, "y"), (-1, "z")], 0)
DOWN = ("down", 1, "x", "y")
XYZ = ["x", "y", "z"]


class ExamplesTest(unittest.TestCase):

    def test_words(self):
        asked = ["carry", "x12", "x0", "x012", "all", "t3"]
        self.assertEqual([is_name(name) for name in asked], [True, True, True, False, False, True])
        self.assertEqual([is_expression(("times", 3, "x")), is_expression(("times", "x", 3))], [True, False])
        told = ("told", (1, [[0, 0]], [True]), ["x"])
        self.assertEqual([is_claim(one) for one in (BACK, "x", ("and",), told)], [True, False, True, True])
        self.assertEqual([free_names(BACK), how_many_knots(BACK)], [["z"], 7])
        self.assertEqual(names_of_expression(("minus", "y", ("turned", "b"))), ["b", "y"])
        self.assertEqual([is_word(3, 8), is_word(0, 0)], [False, True])
        self.assertIs(is_filling(2, ["x", "y"], [("x", 3), ("y", 0)]), True)
        self.assertEqual([bits_of(4, 5), bits_of(0, 0), word_of_bits([0, 1, 1])], [[1, 0, 1, 0], [], 6])
        then = ("then", ("top", "x"), ("all", "y", ("bit", 0, "y")))
        wanted = ("or", ("not", ("top", "x")), ("not", ("some", "y", ("not", ("bit", 0, "y")))))
        self.assertEqual(swept(then), wanted)

    def test_texts(self):
        self.assertEqual(text_of_claim(BACK), "all x [some y [(x + y) = z]]")
        self.assertEqual(text_of_expression(("down", 2, ("both", "x", ("turned", -1)))), "((x & !-1) >> 2)")
        self.assertEqual(text_of_claim(("iff", ("under", "x", 0), ("top", "x"))), "[x under 0] iff [top x]")
        self.assertEqual(claim_of_text("all x [some y [(x + y) = z]]"), BACK)
        self.assertEqual(claim_of_text("and"), ("and",))
        told = ("told", (1, [[0, 1], [1, 1]], [True, False]), ["x"])
        self.assertEqual(claim_of_text("told 1:0,1/1,1:10 x"), told)
        self.assertEqual(expression_of_text("(-3 * (x << 1))"), ("times", -3, ("up", 1, "x")))

    def test_meaning(self):
        self.assertEqual(value(4, ("plus", "x", -3), [("x", 2)]), 15)
        self.assertEqual(value(3, ("times", 5, ("turned", "x")), [("x", 6)]), 5)
        self.assertEqual(value(4, ("down", 1, ("up", 2, "x")), [("x", 7)]), 6)
        self.assertEqual(value(0, 5, []), 0)
        self.assertEqual([holds(3, HALF, [("x", 6)]), holds(3, HALF, [("x", 5)])], [True, False])
        self.assertIs(holds(3, ("under", "x", 0), [("x", 4)]), True)
        self.assertIs(holds(3, ("all", "x", HALF), []), False)
        self.assertEqual(value(4, ("unlike", "x", ("both", "y", 6)), [("x", 5), ("y", 3)]), 7)
        self.assertIs(holds(2, ("bit", 2, "x"), [("x", 3)]), False)
        self.assertIs(holds(0, ("top", 1), []), False)
        self.assertIs(holds(2, ("told", EVEN, ["x"]), [("x", 3)]), True)
        self.assertIs(holds(5, ("or",), []), False)

    def test_puts(self):
        wanted = ("some", "t1", ("same", ("times", 2, "t1"), ("plus", "y", 1)))
        self.assertEqual(put_in(HALF, "x", ("plus", "y", 1)), wanted)
        self.assertEqual(renamed(("below", "x", "y"), [("x", "y"), ("y", "x")]), ("below", "y", "x"))
        self.assertEqual(renamed(HALF, [("x", "y")]), ("some", "t1", ("same", ("times", 2, "t1"), "y")))
        self.assertEqual(plain_bound(HALF), ("some", "t1", ("same", ("times", 2, "t1"), "x")))
        self.assertIs(are_renamings(HALF, ("some", "z", ("same", ("times", 2, "z"), "x"))), True)

    def test_tables(self):
        asked = [EVEN, (1, [[0, 2]], [True]), (0, [[0]], [True])]
        self.assertEqual([is_table(table) for table in asked], [True, False, True])
        self.assertEqual([row_of(3, [5, 2]), words_of(2, [1, 2, 1])], [[1, 2, 1], [5, 2]])
        self.assertIs(takes(LESS, row_of(3, [2, 5])), True)
        self.assertEqual(stand_behind(EVEN, [1, 1, 1]), 1)
        self.assertEqual([reached(LESS), first_taken(LESS)], [[(0, []), (1, [2])], [2]])
        self.assertIsNone(first_taken((1, [[0, 0]], [False])))
        self.assertEqual(rows_to(EVEN, 2), [[0, 0], [1, 1]])
        self.assertEqual(parting_row(EVEN, (1, [[0, 0]], [True])), [1])
        self.assertEqual(alike_stands(WIDE), [[0, 3], [1, 2]])
        self.assertEqual(least(WIDE), (1, [[1, 1], [0, 0]], [True, False]))
        self.assertIs(is_least(WIDE), False)
        self.assertEqual(list_table(1, [[], [1]]), (1, [[1, 2], [1, 1], [1, 1]], [True, False, True]))

    def test_joins(self):
        self.assertEqual(turned(EVEN), (1, [[0, 1], [1, 0]], [False, True]))
        steps = [[0, 0, 1, 2], [1, 2, 3, 3], [2, 2, 3, 0], [3, 0, 1, 1]]
        self.assertEqual(joined("and", LESS, placed(EVEN, [1], 2)), (2, steps, [False, False, False, True]))
        self.assertEqual(some(LESS, 0), (1, [[0, 1], [1, 1]], [False, True]))
        self.assertEqual([every(LESS, 0), placed(LESS, [0, 0], 1)], [(1, [[0, 0]], [False])] * 2)

    def test_atoms(self):
        self.assertEqual([is_atom(ADD), is_atom(("sum", [(0, "x")], 0))], [True, False])
        self.assertIs(is_atom(("bits", "both", "x", "x", "y")), True)
        self.assertEqual([names_in(ADD), names_in(("below", "y", "x"))], [XYZ, ["x", "y"]])
        self.assertIs(holds_plainly(ADD, 3, [("x", 5), ("y", 4), ("z", 1)]), True)
        self.assertEqual(label_of(ADD, 3, [("x", 5), ("y", 4), ("z", 1)]), ("carry", 1))
        self.assertEqual(label_of(ADD, 2, [("x", 1), ("y", 2), ("z", 2)]), ("off",))
        self.assertEqual(label_of(DOWN, 3, [("x", 3), ("y", 6)]), ("wait", (0,)))
        self.assertEqual(first_label(DOWN), ("wait", ()))
        self.assertEqual(label_behind(ADD, XYZ, ("carry", 1), 6), ("off",))
        self.assertEqual(label_behind(ADD, XYZ, ("carry", 1), 1), ("carry", 1))
        self.assertIsNone(label_behind(ADD, XYZ, ("wait", ()), 1))
        self.assertIs(is_good(DOWN, ("wait", (1,))), False)
        wanted = ((2, [[0, 0, 1, 0], [1, 0, 1, 1]], [False, True]), [("not",), ("less",)])
        self.assertEqual(atom_table(("below", "x", "y"), ["x", "y"]), wanted)
        wanted = ((1, [[0, 1], [1, 1]], [True, False]), [("carry", 0), ("off",)])
        self.assertEqual(atom_table(("sum", [(3, "x")], 0), ["x"]), wanted)
        self.assertEqual([most_stands(ADD), carries_met(ADD), carry_bounds(ADD, 0)], [5, [0, 1], (0, 0)])
        self.assertIsNone(carry_bounds(("sum", [], 3), 1))


if __name__ == "__main__":
    unittest.main()
