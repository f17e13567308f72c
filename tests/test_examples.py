"""All examples that the document shows for these modules, with just the answers that it shows."""

import unittest

from howeverwide.alike import against, alike_from, are_alike, enough, exchanged, follows, is_always, is_never, part_at, parting
from howeverwide.atoms import atom_table, carries_met, carry_bounds, first_label, holds_plainly, is_atom, is_good
from howeverwide.atoms import label_behind, label_of, most_stands, names_in
from howeverwide.building import as_told, table_of, table_on
from howeverwide.fillings import all_met, first_met, is_met, last_met, met_ahead, met_numbered, next_met, ones_met
from howeverwide.joins import every, joined, placed, some, turned
from howeverwide.judge import is_no, is_no_at, is_paper
from howeverwide.meaning import holds, value
from howeverwide.papers import no_paper, no_paper_at, paper_least, paper_not, paper_of, paper_or, papers_in, stands_in
from howeverwide.pieces import free_in_piece, gathered, is_piece, most_names, piece_holds, piece_of
from howeverwide.puts import are_renamings, plain_bound, put_in, renamed
from howeverwide.reach import is_widths_paper, lots_reached, met_from, met_widths, sure_from, sure_widths, widths_paper
from howeverwide.tables import alike_stands, first_taken, is_least, is_table, least, list_table, parting_row, reached
from howeverwide.tables import row_of, rows_to, stand_behind, takes, words_of
from howeverwide.texts import claim_of_text, expression_of_text, text_of_claim, text_of_expression
from howeverwide.widths import greatest_width, has_width, how_many_below, is_widths, joined_widths, later_widths, least_width
from howeverwide.widths import next_width, parting_width, plain_widths, text_of_widths, turned_widths, width_numbered, widths_of_text
from howeverwide.words import bits_of, free_names, how_many_knots, is_claim, is_expression, is_filling, is_name
from howeverwide.words import is_word, names_of_expression, swept, word_of_bits

BACK = ("all", "x", ("some", "y", ("same", ("plus", "x", "y"), "z")))
HALF = ("some", "y", ("same", ("times", 2, "y"), "x"))
EVEN = (1, [[0, 1], [1, 0]], [True, False])
LESS = (2, [[0, 0, 1, 0], [1, 0, 1, 1]], [False, True])
WIDE = (1, [[1, 2], [3, 0], [0, 3], [1, 2]], [True, False, False, True])
ADD = ("sum", [(1, "x"), (1, "y"), (-1, "z")], 0)
DOWN = ("down", 1, "x", "y")
XYZ = ["x", "y", "z"]


class ExamplesTest(unittest.TestCase):

    def test_words(self):
        asked = ["carry", "x12", "x0", "x012", "all", "t3"]
        self.assertEqual([is_name(name) for name in asked], [True, True, True, False, False, True])
        self.assertEqual([is_expression(("times", 3, "x")), is_expression(("times", "x", 3))], [True, False])
        told = ("told", (1, [[0, 0]], [True]), ["x"])
        self.assertEqual([is_claim(one) for one in (BACK, "x", ("and",), told)], [True, False, True, True])
        self.assertEqual([free_names(BACK), how_many_knots(BACK)], [["z"], 7])
        self.assertEqual(names_of_expression(("minus", "y", ("turned", "b"))), ["b", "y"])
        self.assertEqual([is_word(3, 8), is_word(0, 0)], [False, True])
        self.assertIs(is_filling(2, ["x", "y"], [("x", 3), ("y", 0)]), True)
        self.assertEqual([bits_of(4, 5), bits_of(0, 0), word_of_bits([0, 1, 1])], [[1, 0, 1, 0], [], 6])
        then = ("then", ("top", "x"), ("all", "y", ("bit", 0, "y")))
        wanted = ("or", ("not", ("top", "x")), ("not", ("some", "y", ("not", ("bit", 0, "y")))))
        self.assertEqual(swept(then), wanted)

    def test_texts(self):
        self.assertEqual(text_of_claim(BACK), "all x [some y [(x + y) = z]]")
        self.assertEqual(text_of_expression(("down", 2, ("both", "x", ("turned", -1)))), "((x & !-1) >> 2)")
        self.assertEqual(text_of_claim(("iff", ("under", "x", 0), ("top", "x"))), "[x under 0] iff [top x]")
        self.assertEqual(claim_of_text("all x [some y [(x + y) = z]]"), BACK)
        self.assertEqual(claim_of_text("and"), ("and",))
        told = ("told", (1, [[0, 1], [1, 1]], [True, False]), ["x"])
        self.assertEqual(claim_of_text("told 1:0,1/1,1:10 x"), told)
        self.assertEqual(expression_of_text("(-3 * (x << 1))"), ("times", -3, ("up", 1, "x")))

    def test_meaning(self):
        self.assertEqual(value(4, ("plus", "x", -3), [("x", 2)]), 15)
        self.assertEqual(value(3, ("times", 5, ("turned", "x")), [("x", 6)]), 5)
        self.assertEqual(value(4, ("down", 1, ("up", 2, "x")), [("x", 7)]), 6)
        self.assertEqual(value(0, 5, []), 0)
        self.assertEqual([holds(3, HALF, [("x", 6)]), holds(3, HALF, [("x", 5)])], [True, False])
        self.assertIs(holds(3, ("under", "x", 0), [("x", 4)]), True)
        self.assertIs(holds(3, ("all", "x", HALF), []), False)
        self.assertEqual(value(4, ("unlike", "x", ("both", "y", 6)), [("x", 5), ("y", 3)]), 7)
        self.assertIs(holds(2, ("bit", 2, "x"), [("x", 3)]), False)
        self.assertIs(holds(0, ("top", 1), []), False)
        self.assertIs(holds(2, ("told", EVEN, ["x"]), [("x", 3)]), True)
        self.assertIs(holds(5, ("or",), []), False)

    def test_puts(self):
        wanted = ("some", "t1", ("same", ("times", 2, "t1"), ("plus", "y", 1)))
        self.assertEqual(put_in(HALF, "x", ("plus", "y", 1)), wanted)
        self.assertEqual(renamed(("below", "x", "y"), [("x", "y"), ("y", "x")]), ("below", "y", "x"))
        self.assertEqual(renamed(HALF, [("x", "y")]), ("some", "t1", ("same", ("times", 2, "t1"), "y")))
        self.assertEqual(plain_bound(HALF), ("some", "t1", ("same", ("times", 2, "t1"), "x")))
        self.assertIs(are_renamings(HALF, ("some", "z", ("same", ("times", 2, "z"), "x"))), True)

    def test_tables(self):
        asked = [EVEN, (1, [[0, 2]], [True]), (0, [[0]], [True])]
        self.assertEqual([is_table(table) for table in asked], [True, False, True])
        self.assertEqual([row_of(3, [5, 2]), words_of(2, [1, 2, 1])], [[1, 2, 1], [5, 2]])
        self.assertIs(takes(LESS, row_of(3, [2, 5])), True)
        self.assertEqual(stand_behind(EVEN, [1, 1, 1]), 1)
        self.assertEqual([reached(LESS), first_taken(LESS)], [[(0, []), (1, [2])], [2]])
        self.assertIsNone(first_taken((1, [[0, 0]], [False])))
        self.assertEqual(rows_to(EVEN, 2), [[0, 0], [1, 1]])
        self.assertEqual(parting_row(EVEN, (1, [[0, 0]], [True])), [1])
        self.assertEqual(alike_stands(WIDE), [[0, 3], [1, 2]])
        self.assertEqual(least(WIDE), (1, [[1, 1], [0, 0]], [True, False]))
        self.assertIs(is_least(WIDE), False)
        self.assertEqual(list_table(1, [[], [1]]), (1, [[1, 2], [1, 1], [1, 1]], [True, False, True]))

    def test_joins(self):
        self.assertEqual(turned(EVEN), (1, [[0, 1], [1, 0]], [False, True]))
        steps = [[0, 0, 1, 2], [1, 2, 3, 3], [2, 2, 3, 0], [3, 0, 1, 1]]
        self.assertEqual(joined("and", LESS, placed(EVEN, [1], 2)), (2, steps, [False, False, False, True]))
        self.assertEqual(some(LESS, 0), (1, [[0, 1], [1, 1]], [False, True]))
        self.assertEqual([every(LESS, 0), placed(LESS, [0, 0], 1)], [(1, [[0, 0]], [False])] * 2)

    def test_atoms(self):
        self.assertEqual([is_atom(ADD), is_atom(("sum", [(0, "x")], 0))], [True, False])
        self.assertIs(is_atom(("bits", "both", "x", "x", "y")), True)
        self.assertEqual([names_in(ADD), names_in(("below", "y", "x"))], [XYZ, ["x", "y"]])
        self.assertIs(holds_plainly(ADD, 3, [("x", 5), ("y", 4), ("z", 1)]), True)
        self.assertEqual(label_of(ADD, 3, [("x", 5), ("y", 4), ("z", 1)]), ("carry", 1))
        self.assertEqual(label_of(ADD, 2, [("x", 1), ("y", 2), ("z", 2)]), ("off",))
        self.assertEqual(label_of(DOWN, 3, [("x", 3), ("y", 6)]), ("wait", (0,)))
        self.assertEqual(first_label(DOWN), ("wait", ()))
        self.assertEqual(label_behind(ADD, XYZ, ("carry", 1), 6), ("off",))
        self.assertEqual(label_behind(ADD, XYZ, ("carry", 1), 1), ("carry", 1))
        self.assertIsNone(label_behind(ADD, XYZ, ("wait", ()), 1))
        self.assertIs(is_good(DOWN, ("wait", (1,))), False)
        wanted = ((2, [[0, 0, 1, 0], [1, 0, 1, 1]], [False, True]), [("not",), ("less",)])
        self.assertEqual(atom_table(("below", "x", "y"), ["x", "y"]), wanted)
        wanted = ((1, [[0, 1], [1, 1]], [True, False]), [("carry", 0), ("off",)])
        self.assertEqual(atom_table(("sum", [(3, "x")], 0), ["x"]), wanted)
        self.assertEqual([most_stands(ADD), carries_met(ADD), carry_bounds(ADD, 0)], [5, [0, 1], (0, 0)])
        self.assertIsNone(carry_bounds(("sum", [], 3), 1))

    def test_pieces(self):
        self.assertEqual(gathered(("minus", ("up", 2, "x"), ("turned", ("plus", "y", "x")))), ([(5, "x"), (1, "y")], 1))
        both = ("both", "x", "y")
        self.assertEqual(gathered(("plus", both, ("times", 3, both))), ([(4, both)], 0))
        one = ("some", "t2", ("and", ("sum", [(-1, "t2")], 1), ("bits", "either", "t1", "x", "t2")))
        wanted = ("some", "t1", ("and", one, ("sum", [(-1, "t1"), (1, "x"), (1, "y")], 0)))
        self.assertEqual(piece_of(("same", ("plus", "x", "y"), ("either", "x", 1))), wanted)
        above = ("some", "t1", ("and", ("sum", [(-1, "t1"), (1, "y")], 1), ("below", "x", "t1")))
        self.assertEqual(piece_of(("all", "y", ("below", "x", ("plus", "y", 1)))), ("not", ("some", "y", ("not", above))))
        self.assertEqual([is_piece(("sum", [(1, "x")], 0)), is_piece(("same", "x", 0))], [True, False])
        self.assertIs(piece_holds(3, ("sum", [(2, "x")], 4), [("x", 2)]), True)
        self.assertEqual(free_in_piece(("some", "x", ("below", "x", "y"))), ["y"])
        self.assertEqual(most_names(piece_of(("below", "x", 3))), 2)

    def test_building_and_alike(self):
        less, apart, four = ("below", "x", "y"), ("not", ("same", "x", "y")), ("same", 4, 0)
        self.assertEqual(table_of(less), (2, [[0, 0, 1, 0], [1, 0, 1, 1]], [False, True]))
        self.assertEqual(table_of(("some", "y", ("and", less, ("below", "y", "z")))),
                         (2, [[1, 0, 1, 1], [1, 1, 2, 1], [2, 1, 2, 2]], [False, False, True]))
        self.assertEqual(table_on(("and",), ["x"]), (1, [[0, 0]], [True]))
        self.assertIs(are_alike(less, ("not", ("or", ("below", "y", "x"), ("same", "x", "y")))), True)
        self.assertIs(are_alike(("same", ("plus", "x", "x"), 0), ("same", ("up", 1, "x"), 0)), True)
        self.assertEqual(parting(less, ("under", "x", "y")), (1, [("x", 1), ("y", 0)]))
        self.assertEqual(enough(less, ("under", "x", "y")), 5)
        self.assertEqual([follows(less, apart), follows(apart, less)], [True, False])
        self.assertEqual([against(apart, less), against(("and",), four)], [(1, [("x", 1), ("y", 0)]), (3, [])])
        self.assertEqual([alike_from(four, ("or",)), alike_from(less, apart)], [3, None])
        self.assertEqual([is_always(("or", less, ("not", less))), is_never(("below", "x", 0))], [True, True])
        self.assertEqual(as_told(("top", "x")), ("told", (1, [[0, 1], [0, 1]], [False, True]), ["x"]))
        self.assertEqual(part_at(("some", "y", ("and", less, apart)), [2, 1]), ("below", "x", "y"))
        made = exchanged(("not", ("same", "x", "y")), [1], ("and", ("not", less), ("not", ("below", "y", "x"))))
        self.assertEqual(made, ("not", ("and", ("not", ("below", "x", "y")), ("not", ("below", "y", "x")))))

    def test_widths(self):
        odd, threes = ([], [False, True]), ([], [True, False, False])
        self.assertEqual([is_widths(odd), is_widths(([], [])), has_width(odd, 10 ** 29 + 1)], [True, False, True])
        self.assertEqual(plain_widths(([True, True], [False, True, False, True])), ([True], [True, False]))
        self.assertEqual(plain_widths(([True], [True])), ([], [True]))
        self.assertEqual(joined_widths("and", odd, threes), ([], [False, False, False, True, False, False]))
        self.assertEqual([turned_widths(odd), parting_width(odd, threes), parting_width(odd, odd)], [([], [True, False]), 0, None])
        self.assertEqual(later_widths(threes, 2), ([], [False, False, True]))
        self.assertEqual([least_width(odd), next_width(odd, 3), greatest_width(odd)], [1, 5, None])
        self.assertEqual([greatest_width(([True, True], [False])), how_many_below(threes, 10)], [1, 4])
        self.assertEqual(width_numbered(threes, 10 ** 28), 30000000000000000000000000000)
        self.assertEqual([text_of_widths(odd), widths_of_text("110(0)")], ["(01)", ([True, True], [False])])

    def test_reach(self):
        self.assertEqual(lots_reached((1, [[1, 1], [0, 2], [2, 2]], [True, False, False])), ([[0], [1]], [[0, 2], [1, 2]]))
        steps = ("and", ("same", ("unlike", "x", ("up", 1, "x")), -1), ("top", "x"))
        self.assertEqual([met_widths(steps), met_widths(("same", ("times", 2, "x"), 1))], [([], [False, True]), ([True], [False])])
        self.assertEqual(sure_widths(("not", ("below", 5, "x"))), ([True, True], [False]))
        self.assertEqual([met_from(("bit", 3, "x")), sure_from(("bit", 0, "x"))], [4, None])
        self.assertEqual(widths_paper(("top", "x"))[1], ([[0]], [[0, 1]]))
        self.assertIs(is_widths_paper(steps, widths_paper(steps)), True)
        self.assertIs(is_widths_paper(steps, widths_paper(("top", "x"))), False)

    def test_fillings(self):
        below, names = LESS, ["x", "y"]
        self.assertIs(is_met(below, names, 2, [("x", 1), ("y", 2)]), True)
        self.assertEqual([first_met(below, names, 2), last_met(below, names, 2)], [[("x", 0), ("y", 1)], [("x", 2), ("y", 3)]])
        self.assertIsNone(first_met(below, names, 0))
        self.assertEqual(next_met(below, names, 2, [("x", 0), ("y", 3)]), [("x", 1), ("y", 2)])
        self.assertEqual([met_numbered(below, names, 2, 3), met_numbered(below, names, 2, 6)], [[("x", 1), ("y", 2)], None])
        self.assertEqual(met_ahead(below, names, 2, [("x", 2), ("y", 0)]), 5)
        self.assertEqual([len(all_met(below, names, 3)), ones_met(below, names, 2)], [28, [[2, 1], [4, 5]]])
        self.assertEqual(met_numbered(below, names, 64, 2 ** 64 - 2), [("x", 0), ("y", 18446744073709551615)])

    def test_papers(self):
        labels = [("carry", 0), ("carry", 1), ("off",)]
        twice = (("sum", [(2, "x")], 0), ["x"], (1, [[0, 1], [2, 2], [2, 2]], [True, True, False]), labels, [])
        self.assertIs(is_paper(twice), True)
        self.assertIs(is_paper(twice[:3] + ([("carry", 0), ("carry", 2), ("off",)], [])), False)
        self.assertEqual(paper_least(twice)[3], [("lot", 0), ("lot", 1), ("lot", 2)])
        self.assertEqual(paper_least(twice), paper_of(("same", ("plus", "x", "x"), 0)))
        top = paper_of(("top", "x"))
        self.assertEqual(paper_not(top)[2:4], ((1, [[0, 1], [0, 1]], [True, False]), [("stand", 0), ("stand", 1)]))
        self.assertEqual(paper_least(paper_or([top, paper_not(top)]))[2:4], ((1, [[0, 0]], [True]), [("lot", 0, 1)]))
        self.assertEqual([len(papers_in(paper_not(top))), stands_in(top)], [3, 4])
        odd, never = ("some", "x", ("same", ("times", 2, "x"), 1)), ("below", "x", "x")
        self.assertEqual([no_paper(odd), is_no_at(2, odd, no_paper_at(2, odd)), no_paper_at(0, odd)], [None, True, None])
        self.assertEqual([is_no(never, no_paper(never)), is_no_at(1, ("top", "x"), (top, [[0], [0]]))], [True, False])


if __name__ == "__main__":
    unittest.main()
