"""Promises 1 to 5 for all functions: arguments, errors and their order, what is new and what stays."""

import inspect
import random
import unittest

from howeverwide import alike, always, atoms, between, building, cores, counts, errors, fillings, joins, judge, machines, meaning
from howeverwide import papers, pieces, puts, reach, serial, sheets, solver, tables, texts, wider, widths, words
from tests.support import POOL, have_new_lists, kept, nested, raised_by

EVEN = (1, [[0, 1], [1, 0]], [True, False])
LESS = (2, [[0, 0, 1, 0], [1, 0, 1, 1]], [False, True])
TOLD = ("told", LESS, ["y", "x"])
CLAIM = ("and", ("then", TOLD, TOLD), ("some", "x", ("all", "y", TOLD)), ("iff", TOLD, ("below", "x", "y")))
SUM = ("sum", [(1, "x"), (-2, "y")], 3)
PLAIN = ("and", ("then", TOLD, TOLD), ("iff", TOLD, ("below", "x", "y")))
FILLING = [("x", 1), ("y", 2)]
TOP = (("top", "x"), ["x"], (1, [[0, 1], [0, 1]], [False, True]), [("nought",), ("one",)], [])
ODD = ([], [False, True])
ANY = (None, None)

WIDTH = ("width", "InvalidWidth")
WIDE = ("wide", "InvalidWidth")
EXPRESSION = ("expression", "InvalidExpression")
A_CLAIM = ("claim", "InvalidClaim")
AN_ATOM = ("atom", "InvalidClaim")
A_SUM = ("sum", "InvalidClaim")
A_PIECE = ("piece", "InvalidClaim")
A_PAPER = ("paper", "InvalidPaper")
PAPERS = ("papers", "InvalidPaper")
WIDTHS = ("widths", "InvalidWidths")
COUNTED = ("count", "InvalidWidth")
NUMBERED = ("count", "InvalidNumber")
TABLE = ("table", "InvalidTable")
FILLED = ("filling x y", "InvalidFilling")
CLAIMS = [CLAIM, TOLD, ("top", "x"), ("not", TOLD)]
SOME_CLAIMS = ("claims", "InvalidClaims")
ROW = ("row of claims", "InvalidClaims")
LOT = ("lot", "InvalidNumber")
FREE = ("name x", "InvalidName")
BIT = ("bit", "InvalidNumber")
MACHINE = ("machine", "InvalidMachine")
KEEP = (1, 1, 0, [[0, 0, 0]], [[0, 1, 0]])
WANTED = ("wanted", "InvalidNames")
AHEAD = ("count", "InvalidNumber")
# Of this claim the word x is that with all bits of y above the lowest one, one place lower, and y is even.
SHIFTED = ("and", ("same", "x", ("down", 1, "y")), ("told", (2, [[0, 0, 0, 0]], [True]), ["y", "x"]))
# Whether x is y or y turned is told by the highest bit of y.
TURNED = ("or", ("and", ("top", "y"), ("same", "x", "y")), ("and", ("not", ("top", "y")), ("same", "x", ("turned", "y")), ("told", (0, [[0]], [True]), [])))

# Each function with, for each parameter in order, its name, a right value, and of which kind
# it must be by which error.
CALLS = [
    (words.is_name, [("value", "x", ANY)]),
    (words.is_word, [("width", 3, WIDTH), ("value", 5, ANY)]),
    (words.is_expression, [("value", "x", ANY)]),
    (words.is_claim, [("value", CLAIM, ANY)]),
    (words.is_filling, [("width", 3, WIDTH), ("names", ["x", "y"], ("names", "InvalidNames")), ("value", FILLING, ANY)]),
    (words.names_of_expression, [("expression", ("plus", "y", "x"), EXPRESSION)]),
    (words.free_names, [("claim", CLAIM, A_CLAIM)]),
    (words.how_many_knots, [("claim", CLAIM, A_CLAIM)]),
    (words.bits_of, [("width", 3, WIDTH), ("word", 6, ("word", "InvalidWord"))]),
    (words.word_of_bits, [("bits", [1, 0, 1], ("bits", "InvalidNumber"))]),
    (words.swept, [("claim", CLAIM, A_CLAIM)]),
    (texts.text_of_expression, [("expression", ("plus", "y", "x"), EXPRESSION)]),
    (texts.expression_of_text, [("text", "(x + 1)", ("expression text", "InvalidText"))]),
    (texts.text_of_claim, [("claim", CLAIM, A_CLAIM)]),
    (texts.claim_of_text, [("text", "[told 1:0,0:1 x] iff [told 1:0,0:1 x]", ("claim text", "InvalidText"))]),
    (meaning.value, [("width", 3, WIDTH), ("expression", ("plus", "y", "x"), EXPRESSION), ("filling", FILLING, FILLED)]),
    (meaning.holds, [("width", 3, WIDTH), ("claim", PLAIN, A_CLAIM), ("filling", FILLING, FILLED)]),
    (puts.put_in, [("claim", CLAIM, A_CLAIM), ("name", "x", ("name", "InvalidName")), ("expression", "y", EXPRESSION)]),
    (puts.renamed, [("claim", ("and", ("top", "x"), ("told", EVEN, ["x"])), A_CLAIM),
                    ("pairs", [("x", "y")], ("pairs", "InvalidNames"))]),
    (puts.plain_bound, [("claim", CLAIM, A_CLAIM)]),
    (puts.are_renamings, [("one", CLAIM, A_CLAIM), ("other", CLAIM, A_CLAIM)]),
    (tables.is_table, [("value", EVEN, ANY)]),
    (tables.stand_behind, [("table", EVEN, TABLE), ("row", [1, 0, 1], ("row", "InvalidNumber"))]),
    (tables.takes, [("table", EVEN, TABLE), ("row", [1, 0, 1], ("row", "InvalidNumber"))]),
    (tables.row_of, [("width", 3, WIDTH), ("words", [4], ("words", "InvalidWord"))]),
    (tables.words_of, [("many", 1, ("many", "InvalidNumber")), ("row", [1, 0, 1], ("row", "InvalidNumber"))]),
    (tables.reached, [("table", LESS, TABLE)]),
    (tables.first_taken, [("table", LESS, TABLE)]),
    (tables.alike_stands, [("table", LESS, TABLE)]),
    (tables.least, [("table", LESS, TABLE)]),
    (tables.is_least, [("table", LESS, TABLE)]),
    (tables.parting_row, [("one", EVEN, TABLE), ("other", (1, [[0, 0]], [True]), TABLE)]),
    (tables.rows_to, [("table", (1, [[0, 1], [1, 1]], [True, False]), TABLE), ("width", 3, WIDE)]),
    (tables.list_table, [("many", 1, ("many", "InvalidNumber")), ("rows", [[], [1], [1, 0]], ("rows", "InvalidNumber"))]),
    (joins.turned, [("table", EVEN, TABLE)]),
    (joins.joined, [("way", "and", ("way", "InvalidName")), ("one", EVEN, TABLE), ("other", EVEN, TABLE)]),
    (joins.some, [("table", LESS, TABLE), ("place", 1, ("place", "InvalidNumber"))]),
    (joins.every, [("table", LESS, TABLE), ("place", 1, ("place", "InvalidNumber"))]),
    (joins.placed, [("table", EVEN, TABLE), ("places", [0], ("places", "InvalidNumber")),
                    ("many", 2, ("many above 0", "InvalidNumber"))]),
    (atoms.is_atom, [("value", SUM, ANY)]),
    (atoms.names_in, [("atom", SUM, AN_ATOM)]),
    (atoms.holds_plainly, [("atom", SUM, AN_ATOM), ("width", 3, WIDTH), ("filling", FILLING, FILLED)]),
    (atoms.label_of, [("atom", SUM, AN_ATOM), ("width", 3, WIDTH), ("filling", FILLING, FILLED)]),
    (atoms.first_label, [("atom", SUM, AN_ATOM)]),
    (atoms.label_behind, [("atom", SUM, AN_ATOM), ("names", ["x", "y"], ("names x y", "InvalidNames")),
                          ("label", ("carry", 1), ANY), ("letter", 3, ("letter", "InvalidNumber"))]),
    (atoms.is_good, [("atom", SUM, AN_ATOM), ("label", ("carry", 1), ANY)]),
    (atoms.atom_table, [("atom", SUM, AN_ATOM), ("names", ["x", "y"], ("names x y", "InvalidNames"))]),
    (atoms.most_stands, [("atom", SUM, AN_ATOM)]),
    (atoms.carries_met, [("atom", SUM, A_SUM)]),
    (atoms.carry_bounds, [("atom", SUM, A_SUM), ("width", 3, WIDE)]),
    (pieces.gathered, [("expression", ("plus", ("both", "x", 1), "x"), EXPRESSION)]),
    (pieces.is_piece, [("value", SUM, ANY)]),
    (pieces.piece_holds, [("width", 3, WIDTH), ("piece", ("iff", TOLD, SUM), A_PIECE), ("filling", FILLING, FILLED)]),
    (pieces.free_in_piece, [("piece", ("iff", TOLD, SUM), A_PIECE)]),
    (pieces.piece_of, [("claim", CLAIM, A_CLAIM)]),
    (pieces.most_names, [("piece", ("iff", TOLD, SUM), A_PIECE)]),
    (building.table_of, [("claim", CLAIM, A_CLAIM)]),
    (building.table_on, [("claim", PLAIN, A_CLAIM), ("names", ["x", "y"], ("names x y", "InvalidNames"))]),
    (building.as_told, [("claim", CLAIM, A_CLAIM)]),
    *[(function, [("one", CLAIM, A_CLAIM), ("other", PLAIN, A_CLAIM)]) for function in
      (alike.are_alike, alike.parting, alike.enough, alike.follows, alike.against, alike.alike_from)],
    (alike.is_always, [("claim", CLAIM, A_CLAIM)]),
    (alike.is_never, [("claim", CLAIM, A_CLAIM)]),
    (alike.part_at, [("claim", CLAIM, A_CLAIM), ("road", [1, 2], ("road", "InvalidNumber"))]),
    (alike.exchanged, [("claim", CLAIM, A_CLAIM), ("road", [1, 2], ("road", "InvalidNumber")), ("other", TOLD, A_CLAIM)]),
    (widths.is_widths, [("value", ODD, ANY)]),
    (widths.has_width, [("widths", ODD, WIDTHS), ("width", 9, COUNTED)]),
    (widths.plain_widths, [("widths", ([True], [True, True]), WIDTHS)]),
    (widths.joined_widths, [("way", "or", ("way of widths", "InvalidName")), ("one", ODD, WIDTHS), ("other", ([], [True]), WIDTHS)]),
    (widths.turned_widths, [("widths", ODD, WIDTHS)]),
    (widths.parting_width, [("one", ODD, WIDTHS), ("other", ([], [True]), WIDTHS)]),
    (widths.later_widths, [("widths", ODD, WIDTHS), ("many", 3, ("later", "InvalidNumber"))]),
    (widths.least_width, [("widths", ODD, WIDTHS)]),
    (widths.next_width, [("widths", ODD, WIDTHS), ("width", 9, COUNTED)]),
    (widths.greatest_width, [("widths", ([True], [False]), WIDTHS)]),
    (widths.how_many_below, [("widths", ODD, WIDTHS), ("width", 9, COUNTED)]),
    (widths.width_numbered, [("widths", ODD, WIDTHS), ("number", 9, NUMBERED)]),
    (widths.text_of_widths, [("widths", ODD, WIDTHS)]),
    (widths.widths_of_text, [("text", "01(1)", ("widths text", "InvalidText"))]),
    (reach.lots_reached, [("table", LESS, TABLE)]),
    (reach.taken_widths, [("table", LESS, TABLE)]),
    (reach.full_widths, [("table", LESS, TABLE)]),
    (reach.met_widths, [("claim", CLAIM, A_CLAIM)]),
    (reach.sure_widths, [("claim", CLAIM, A_CLAIM)]),
    (reach.met_from, [("claim", CLAIM, A_CLAIM)]),
    (reach.sure_from, [("claim", CLAIM, A_CLAIM)]),
    (reach.widths_paper, [("claim", CLAIM, A_CLAIM)]),
    (reach.is_widths_paper, [("claim", ("top", "x"), A_CLAIM), ("value", (TOP, ([[0]], [[0, 1]])), ANY)]),
    *[(function, [("table", LESS, TABLE), ("names", ["x", "y"], ("two names", "InvalidNames")), ("width", 3, WIDTH)]) for function in
      (fillings.first_met, fillings.last_met, fillings.all_met, fillings.ones_met)],
    *[(function, [("table", LESS, TABLE), ("names", ["x", "y"], ("two names", "InvalidNames")), ("width", 3, WIDTH),
                  ("filling", FILLING, FILLED)]) for function in (fillings.is_met, fillings.next_met, fillings.met_ahead)],
    (fillings.met_numbered, [("table", LESS, TABLE), ("names", ["x", "y"], ("two names", "InvalidNames")), ("width", 3, WIDTH),
                             ("number", 9, NUMBERED)]),
    (counts.how_many_met, [("table", LESS, TABLE), ("width", 30, ("to 2000", "InvalidWidth"))]),
    (counts.how_many_by, [("table", LESS, TABLE), ("width", 10 ** 29, COUNTED), ("by", 10, ("by", "InvalidNumber"))]),
    (counts.count_rule, [("table", LESS, TABLE)]),
    (counts.counts_part, [("one", LESS, TABLE), ("other", EVEN, TABLE)]),
    (counts.is_count_rule, [("table", EVEN, TABLE), ("value", ([1, 1], [2, 0]), ANY)]),
    (counts.counts_by, [("table", LESS, TABLE), ("by", 10, ("by to 50", "InvalidNumber"))]),
    (wider.widened, [("width", 3, WIDTH), ("filling", FILLING, ("filling", "InvalidFilling")), ("way", "top", ("way of wider", "InvalidText"))]),
    (wider.kept_wider, [("claim", CLAIM, A_CLAIM), ("way", "noughts", ("way of wider", "InvalidText"))]),
    (cores.lot_widths, [("claims", CLAIMS, SOME_CLAIMS), ("lot", [0, 2], LOT)]),
    (cores.can_meet, [("claims", CLAIMS, SOME_CLAIMS), ("lot", [0, 2], LOT), ("width", 9, COUNTED)]),
    *[(function, [("claims", CLAIMS, SOME_CLAIMS), ("width", 9, COUNTED)]) for function in
      (cores.least_clashes, cores.greatest_met, cores.mends)],
    (cores.clash_widths, [("claims", CLAIMS, SOME_CLAIMS), ("lot", [1, 3], LOT)]),
    (cores.crossing, [("many", 4, ("to 8", "InvalidNumber")), ("lots", [[0, 1], [1, 2], [0, 1]], ("lots", "InvalidClaims"))]),
    (cores.following_widths, [("claims", CLAIMS, SOME_CLAIMS), ("claim", TOLD, A_CLAIM)]),
    *[(function, [("claims", CLAIMS, SOME_CLAIMS)]) for function in
      (cores.never_met, cores.ever_met, cores.idle_claims, cores.least_bases)],
    *[(function, [("one", TOLD, A_CLAIM), ("other", ("not", TOLD), A_CLAIM)]) for function in
      (between.shared_names, between.clash, between.clashing_widths, between.meeting, between.strongest, between.weakest,
       between.only_between)],
    (between.clash_at, [("width", 9, COUNTED), ("one", TOLD, A_CLAIM), ("other", CLAIM, A_CLAIM)]),
    (between.is_between, [("one", TOLD, A_CLAIM), ("other", ("not", TOLD), A_CLAIM), ("value", LESS, ANY)]),
    (between.how_many_open, [("width", 9, WIDE), ("one", TOLD, A_CLAIM), ("other", ("not", TOLD), A_CLAIM)]),
    (between.chain, [("claims", [TOLD, ("not", TOLD), TOLD], ROW)]),
    (between.is_chain, [("claims", [("top", "x"), ("not", ("top", "x"))], ROW), ("value", [(["x"], TOP[2])], ANY)]),
    *[(function, [("claim", PLAIN, A_CLAIM), ("name", "x", FREE)]) for function in
      (always.two_words, always.no_word, always.mattering, always.without)],
    (always.bit_always, [("claim", PLAIN, A_CLAIM), ("name", "x", FREE), ("place", 3, ("to 8", "InvalidNumber")), ("bit", 1, BIT)]),
    (always.top_always, [("claim", PLAIN, A_CLAIM), ("name", "x", FREE), ("bit", 0, BIT)]),
    (always.always_equal, [("claim", PLAIN, A_CLAIM)]),
    (always.always_turned, [("claim", PLAIN, A_CLAIM)]),
    (always.kept_sums, [("claim", ("and", ("same", "x", "y"), ("told", EVEN, ["x"])), A_CLAIM), ("most", 2, ("one or two", "InvalidNumber"))]),
    (always.sum_against, [("claim", PLAIN, A_CLAIM), ("terms", [(1, "x"), (2, "y")], ("terms", "InvalidClaim")), ("c", 3, ("whole", "InvalidNumber"))]),
    (serial.is_machine, [("value", KEEP, ANY)]),
    (serial.told_words, [("machine", KEEP, MACHINE), ("width", 3, WIDTH), ("words", [4], ("words", "InvalidWord"))]),
    (serial.machine_table, [("machine", KEEP, MACHINE)]),
    (serial.tell_alike, [("one", KEEP, MACHINE), ("other", (1, 1, 1, [[0, 0, 0]], [[0, 1, 0]]), MACHINE)]),
    (serial.chained, [("one", KEEP, MACHINE), ("other", (1, 1, 1, [[0, 0, 0]], [[0, 1, 0]]), MACHINE)]),
    *[(function, [("claim", SHIFTED, A_CLAIM), ("wanted", ["x"], WANTED)]) for function in
      (machines.untold, machines.bits_ahead, machines.machine_for)],
    (machines.barring_ring, [("claim", TURNED, A_CLAIM), ("wanted", ["x"], WANTED)]),
    (machines.not_enough, [("claim", SHIFTED, A_CLAIM), ("wanted", ["x"], WANTED), ("ahead", 0, AHEAD)]),
    (machines.is_not_enough, [("claim", SHIFTED, A_CLAIM), ("wanted", ["x"], WANTED), ("ahead", 0, AHEAD),
                              ("value", (0, (2, [("x", 0), ("y", 0)]), (2, [("x", 1), ("y", 2)])), ANY)]),
    (machines.is_barring_ring, [("claim", TURNED, A_CLAIM), ("wanted", ["x"], WANTED),
                                ("value", ([0], [0], ([0], [0], [(1, 1)]), ([1], [1], [(0, 1)])), ANY)]),
    (machines.undone, [("machine", KEEP, MACHINE), ("claim", SHIFTED, A_CLAIM), ("wanted", ["x"], WANTED)]),
    (sheets.sheet_of, [("claims", CLAIMS, SOME_CLAIMS)]),
    (sheets.claims_of_sheet, [("text", "told 1:0,0:1 x\n# a\ntold 1:0,0:1 x\n", ("sheet", "InvalidText"))]),
    (sheets.good_part, [("text", "told 1:0,0:1 x\n# a\ntold 1:0,0:1 x\nto", ("string", "InvalidText"))]),
    (solver.is_deed, [("solver", solver.Solver(), ("solver", "InvalidDeed")), ("value", ("claim", TOLD), ANY)]),
    (judge.is_paper, [("value", TOP, ANY)]),
    (judge.is_no, [("claim", ("top", "x"), A_CLAIM), ("value", TOP, ANY)]),
    (judge.is_no_at, [("width", 1, WIDTH), ("claim", ("top", "x"), A_CLAIM), ("value", (TOP, [[0], [0, 1]]), ANY)]),
    (papers.paper_of, [("claim", CLAIM, A_CLAIM)]),
    (papers.no_paper, [("claim", ("and", TOLD, ("not", TOLD)), A_CLAIM)]),
    (papers.no_paper_at, [("width", 3, WIDTH), ("claim", ("and", TOLD, ("not", TOLD)), A_CLAIM)]),
    (papers.paper_not, [("paper", TOP, A_PAPER)]),
    (papers.paper_and, [("papers", [TOP, TOP], PAPERS)]),
    (papers.paper_or, [("papers", [TOP, TOP], PAPERS)]),
    (papers.paper_some, [("paper", TOP, A_PAPER), ("name", "x", ("name x", "InvalidName"))]),
    (papers.paper_least, [("paper", TOP, A_PAPER)]),
    (papers.papers_in, [("paper", TOP, A_PAPER)]),
    (papers.stands_in, [("paper", TOP, A_PAPER)]),
]

JUDGES = {
    words.is_name: "name",
    words.is_expression: "expression",
    words.is_claim: "claim",
    tables.is_table: "table",
    atoms.is_atom: "atom",
    pieces.is_piece: "piece",
    widths.is_widths: "widths",
    judge.is_paper: "paper",
    serial.is_machine: "machine",
}


class ArgumentsTest(unittest.TestCase):

    def test_every_function_of_these_modules_is_called_here(self):
        tested = {function.__name__ for function, _ in CALLS}
        self.assertEqual(len(tested), len(CALLS))
        self.assertEqual(len(CALLS), 11 + 4 + 2 + 4 + 13 + 5 + 11 + 6 + 3 + 10 + 14 + 9 + 8 + 6 + 2 + 12 + 12 + 3 + 10 + 10 + 5 + 8 + 3 + 1)
        for function, parameters in CALLS:
            self.assertEqual(list(inspect.signature(function).parameters), [name for name, _, _ in parameters])

    def test_by_position_and_by_name(self):
        for function, parameters in CALLS:
            placed = function(*[right for _, right, _ in parameters])
            named = function(**{name: right for name, right, _ in reversed(parameters)})
            self.assertEqual(placed, named, function.__name__)
            self.assertIs(placed.__class__, named.__class__)

    def test_arguments_stay_and_lists_are_new(self):
        for function, parameters in CALLS:
            arguments = [kept(right) for _, right, _ in parameters]
            first = function(*arguments)
            again = function(*arguments)
            self.assertEqual(arguments, [right for _, right, _ in parameters], function.__name__)
            self.assertEqual(first, again)
            self.assertTrue(have_new_lists([first, again], arguments), function.__name__)

    def test_each_wrong_argument_is_told_by_its_error(self):
        for function, parameters in CALLS:
            arguments = [right for _, right, _ in parameters]
            for place, (name, _, (kind, error_name)) in enumerate(parameters):
                if kind is None:
                    continue
                for wrong in POOL.wrong(kind):
                    with self.subTest(function=function.__name__, parameter=name, wrong=repr(wrong)[:80]):
                        copied = kept(wrong) if not isinstance(wrong, errors.ClaimError) else wrong
                        error = raised_by(function, *arguments[:place], wrong, *arguments[place + 1:])
                        self.assertIs(error.__class__, getattr(errors, error_name))
                        self.assertIs(error.value, wrong)
                        self.assertEqual(wrong, copied)

    def test_right_arguments_are_not_refused(self):
        for function, parameters in CALLS:
            if len(parameters) == 1:
                _, _, (kind, _) = parameters[0]
                for value, kinds in POOL.entries:
                    if kind is None or kind in kinds:
                        self.assertIsNone(raised_by(function, value), (function.__name__, value))

    def test_of_two_wrong_arguments_the_first_one_is_told(self):
        chance = random.Random(7)
        for function, parameters in CALLS:
            checked = [place for place, (_, _, (kind, _)) in enumerate(parameters) if kind is not None]
            for first in checked:
                for last in checked:
                    if first < last:
                        self.look_at_two(chance, function, parameters, first, last)

    def look_at_two(self, chance, function, parameters, first, last):
        for _ in range(40):
            arguments = [right for _, right, _ in parameters]
            arguments[first] = chance.choice(POOL.wrong(parameters[first][2][0]))
            arguments[last] = chance.choice(POOL.wrong(parameters[last][2][0]))
            error = raised_by(function, *arguments)
            told = (function.__name__, repr(arguments)[:200])
            self.assertEqual(error.__class__.__name__, parameters[first][2][1], told)
            self.assertIs(error.value, arguments[first], told)

    def test_judges_tell_of_any_value(self):
        for judge, kind in JUDGES.items():
            for value in POOL.right(kind):
                self.assertIs(judge(value), True, (judge.__name__, value))
            for value in POOL.wrong(kind):
                self.assertIs(judge(value), False, (judge.__name__, value))
        for value, kinds in POOL.entries:
            self.assertIs(words.is_word(3, value), "word" in kinds, value)
            self.assertIs(words.is_filling(3, ["x", "y"], value), "filling x y" in kinds, value)

    def test_judges_check_their_other_arguments_first(self):
        for value, _ in POOL.entries:
            self.assertIsInstance(raised_by(words.is_word, 65, value), errors.InvalidWidth)
            self.assertIsInstance(raised_by(words.is_filling, 65, ["x"], value), errors.InvalidWidth)
            self.assertIsInstance(raised_by(words.is_filling, 3, ["y", "x"], value), errors.InvalidNames)

    def test_deep_values_are_told_quickly(self):
        makers = (lambda inner: ("not", inner), lambda inner: [inner], lambda inner: (inner, inner),
                  lambda inner: ("and", inner, inner, inner), lambda inner: ("same", inner, inner),
                  lambda inner: ("sum", [inner, inner], inner), lambda inner: ("plus", inner, inner))
        for make in makers:
            wrong = nested(make, ("top", True), 28)
            for function, parameters in CALLS:
                _, *others = [right for _, right, _ in parameters]
                if parameters[0][2][0] is not None:
                    error = raised_by(function, wrong, *others)
                    self.assertEqual(error.__class__.__name__, parameters[0][2][1])
                    self.assertIs(error.value, wrong)


class ErrorsTest(unittest.TestCase):

    VALUED = ["InvalidNumber", "InvalidName", "InvalidWidth", "InvalidWord", "InvalidExpression", "InvalidClaim",
              "InvalidClaims", "InvalidFilling", "InvalidTable", "InvalidNames", "InvalidWidths", "InvalidPaper",
              "InvalidMachine", "InvalidText", "InvalidDeed", "Unlike", "TooMany"]

    def test_all_stand_directly_under_one(self):
        self.assertEqual(errors.ClaimError.__bases__, (ValueError,))
        for name in self.VALUED + ["NothingToUndo", "NothingToRedo"]:
            self.assertEqual(getattr(errors, name).__bases__, (errors.ClaimError,), name)

    def test_made_with_a_value_by_name_and_with_nothing(self):
        for name in self.VALUED:
            made = getattr(errors, name)
            for value, _ in POOL.entries:
                self.assertIs(made(value).value, value)
                self.assertIs(made(value=value).value, value)
            self.assertIsNone(made().value)
            self.assertEqual(vars(made()), {"value": None})
            with self.assertRaises(made):
                raise made([1])

    def test_some_have_no_field(self):
        for name in ("ClaimError", "NothingToUndo", "NothingToRedo"):
            self.assertEqual(vars(getattr(errors, name)()), {})
            self.assertFalse(hasattr(getattr(errors, name)(), "value"))


if __name__ == "__main__":
    unittest.main()
