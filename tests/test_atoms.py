"""Promises 20 to 24: atoms, their labels, their tables, and the carries of sums."""

import itertools
import unittest

from howeverwide.atoms import atom_table, carries_met, carry_bounds, first_label, holds_plainly, is_atom, is_good
from howeverwide.atoms import label_behind, label_of, most_stands, names_in
from howeverwide.errors import InvalidClaim, InvalidFilling, InvalidNames, InvalidNumber, InvalidWidth
from howeverwide.tables import is_least, is_table, row_of, stand_behind, takes
from tests.support import POOL, Maker, fillings, have_new_lists, plain_bits, plain_letters, plainly_holds, plainly_takes
from tests.support import raised_by

XY, XYZ = ["x", "y"], ["x", "y", "z"]
BIG = 10 ** 30 - 1
KINDS = [
    ("sum", [(1, "x"), (1, "y"), (-1, "z")], 0), ("sum", [], 3), ("sum", [], 0), ("sum", [(2, "x")], -4),
    ("sum", [(-4, "x"), (6, "y")], 10), ("sum", [(-1, "x"), (-3, "y")], -7), ("bits", "both", "x", "y", "z"),
    ("bits", "either", "z", "y", "x"), ("bits", "unlike", "y", "x", "z"), ("bits", "both", "x", "x", "x"),
    ("bits", "unlike", "x", "y", "y"), ("off", "x", "y"), ("off", "x", "x"), ("down", 0, "x", "y"), ("down", 1, "y", "x"),
    ("down", 3, "x", "y"), ("down", 2, "x", "x"), ("below", "x", "y"), ("below", "y", "x"), ("below", "x", "x"),
    ("under", "x", "y"), ("under", "y", "x"), ("under", "x", "x"), ("bit", 0, "x"), ("bit", 2, "y"), ("top", "x"),
    ("told", (2, [[0, 0, 1, 0], [1, 0, 1, 1]], [False, True]), ["y", "x"]), ("told", (0, [[1], [0]], [True, False]), []),
]


def made_atoms(seeds):
    for atom in KINDS:
        yield atom
    for seed in range(seeds):
        yield Maker(seed).atom()


def claim_of_atom(atom):
    """The claim that says what the atom says."""
    word = atom[0]
    if word == "sum":
        whole = atom[2]
        for k, name in atom[1]:
            whole = ("plus", ("times", k, name), whole)
        return ("same", whole, 0)
    if word == "bits":
        return ("same", atom[2], (atom[1], atom[3], atom[4]))
    if word == "off":
        return ("same", atom[1], ("turned", atom[2]))
    if word == "down":
        return ("same", atom[2], ("down", atom[1], atom[3]))
    return atom


def plain_label(atom, width, words):
    """Reckon the label of all bits as [21] says, from the bits of the words."""
    word = atom[0]
    holds = plainly_holds(width, claim_of_atom(atom), words)
    if word == "sum":
        whole = atom[2] + sum(k * words[name] for k, name in atom[1])
        return ("carry", whole // 2 ** width) if whole % 2 ** width == 0 else ("off",)
    if word in ("bits", "off"):
        return ("good",) if holds else ("off",)
    if word == "down":
        low, high = plain_bits(width, words[atom[2]]), plain_bits(width, words[atom[3]])
        settled = max(width - atom[1], 0)
        good = all(low[place] == high[place + atom[1]] for place in range(settled))
        return ("wait", tuple(low[settled:])) if good else ("off",)
    if word == "below":
        return ("less",) if holds else ("not",)
    if word == "under":
        return (words[atom[1]] < words[atom[2]], holds)
    if word == "bit" and width <= atom[1]:
        return ("at", width)
    if word in ("bit", "top"):
        return ("one",) if holds else ("nought",)
    stand = 0
    for letter in plain_letters(width, [words[name] for name in atom[2]]):
        stand = atom[1][1][stand][letter]
    return ("stand", stand)


def plain_carries(atom, most):
    """The ascending lists of the carries at the widths up to most, by going through all letters."""
    carries = {atom[2]}
    told = [sorted(carries)]
    for _ in range(most):
        sums = {carry + sum(k * bit for (k, _), bit in zip(atom[1], bits))
                for carry in carries for bits in itertools.product((0, 1), repeat=len(atom[1]))}
        carries = {one // 2 for one in sums if one % 2 == 0}
        told.append(sorted(carries))
    return told


class AtomsTest(unittest.TestCase):

    def test_what_is_an_atom(self):
        for atom in made_atoms(200):
            self.assertIs(is_atom(atom), True, atom)
        for atom in (("sum", [(BIG, "x")], -BIG), ("bit", BIG, "x"), ("down", 9, "x", "y"),
                     ("sum", [(1, f"a{number}") for number in sorted(range(40), key=str)], 1)):
            self.assertIs(is_atom(atom), True, atom)
        for value in (("sum", [(1, "y"), (1, "x")], 0), ("sum", [(1, "x"), (2, "x")], 0), ("sum", [(0, "x")], 0), ("sum", [], "x"),
                      ("sum", [(True, "x")], 0), ("sum", [], True), ("sum", (), 0), ("sum", [["x", 1]], 0), ("sum", [("x", 1)], 0),
                      ("sum", [(1, "all")], 0), ("sum", []), ("sum", [], 0, 0), ("sum", [(1, "x", "y")], 0),
                      ("bits", "and", "x", "y", "z"), ("bits", "both", "x", "y"), ("bits", "both", "x", "y", 0),
                      ("bits", ["both"], "x", "y", "z"), ("off", "x"), ("off", "x", 1), ("down", -1, "x", "y"), ("down", "x", "y"),
                      ("down", True, "x", "y"), ("below", "x", 1), ("under", ("plus", "x", "y"), "x"), ("bit", "x", 0), ("top", 1),
                      ("top", "x", "y"), ("told", (1, [[0, 0]], [True]), []), ("same", "x", "y"), ("not", ("top", "x")), ["top", "x"],
                      ("and",), (), "x", None):
            self.assertIs(is_atom(value), False, value)

    def test_names(self):
        self.assertEqual(names_in(("bits", "both", "z", "x", "z")), ["x", "z"])
        self.assertEqual(names_in(("sum", [(1, "x10"), (1, "x2")], 0)), ["x10", "x2"])
        self.assertEqual(names_in(("told", (2, [[0] * 4], [True]), ["y", "x"])), XY)
        self.assertEqual([names_in(("sum", [], 0)), names_in(("down", 2, "y", "x"))], [[], XY])

    def test_holding_and_labels_at_small_widths(self):
        for atom in made_atoms(150):
            names = names_in(atom)
            for width in range(4 if len(names) < 3 else 3):
                for filling in fillings(names, width):
                    self.look_at(atom, width, filling)

    def test_holding_and_labels_at_the_width_64(self):
        for number, atom in enumerate(made_atoms(300)):
            maker = Maker(number)
            for width in (63, 64):
                words = [maker.random.choice([0, 2 ** width - 1, 2 ** (width - 1), maker.random.randrange(2 ** width)])
                         for _ in names_in(atom)]
                self.look_at(atom, width, list(zip(names_in(atom), words)))
        for x in (0, 5, 2 ** 64 - 1, 2 ** 63):
            for atom, y in ((("sum", [(3, "x"), (-1, "y")], 7), (3 * x + 7) % 2 ** 64), (("down", 3, "y", "x"), x >> 3),
                            (("bits", "both", "y", "x", "x"), x), (("off", "x", "y"), 2 ** 64 - 1 - x)):
                self.assertIs(holds_plainly(atom, 64, [("x", x), ("y", y)]), True)
                self.look_at(atom, 64, [("x", x), ("y", y)])

    def look_at(self, atom, width, filling):
        """Hold an atom's answers against a plain reckoning, and going on bit by bit against both."""
        words = dict(filling)
        wanted = plainly_holds(width, claim_of_atom(atom), words)
        self.assertIs(holds_plainly(atom, width, filling), wanted, (atom, width, filling))
        label = label_of(atom, width, filling)
        self.assertEqual(repr(label), repr(plain_label(atom, width, words)), (atom, width, filling))
        self.assertIs(is_good(atom, label), wanted)
        found = first_label(atom)
        for letter in row_of(width, [words[name] for name in names_in(atom)]):
            found = label_behind(atom, names_in(atom), found, letter)
        self.assertEqual(repr(found), repr(label), (atom, width, filling))

    def test_wrong_fillings_and_widths(self):
        for function in (holds_plainly, label_of):
            for filling in ([], [("x", 1)], [("x", 8), ("y", 1)], [("x", 1), ("y", 1), ("z", 1)], [("y", 1), ("x", 1)], None):
                error = raised_by(function, ("below", "y", "x"), 3, filling)
                self.assertIs(error.__class__, InvalidFilling)
                self.assertIs(error.value, filling)
            self.assertIs(raised_by(function, ("below", "y", "x"), 65, None).__class__, InvalidWidth)
            self.assertIs(raised_by(function, ("same", "y", "x"), 65, None).__class__, InvalidClaim)


class LabelsTest(unittest.TestCase):

    SHAPES = {
        ("sum", ((1, "x"), (3, "y")), 2): [("carry", 0), ("carry", -BIG), ("carry", 7), ("off",)],
        ("bits", "both", "x", "y", "y"): [("good",), ("off",)],
        ("off", "x", "y"): [("good",), ("off",)],
        ("down", 2, "x", "y"): [("wait", ()), ("wait", (0,)), ("wait", (1, 0)), ("wait", (1, 1)), ("off",)],
        ("down", 0, "x", "y"): [("wait", ()), ("off",)],
        ("below", "x", "y"): [("less",), ("not",)],
        ("under", "x", "y"): [(False, False), (False, True), (True, False), (True, True)],
        ("bit", 2, "x"): [("at", 0), ("at", 2), ("one",), ("nought",)],
        ("top", "x"): [("one",), ("nought",)],
        ("told", "even", "x"): [("stand", 0), ("stand", 1)],
    }
    NO_SHAPES = [("carry", ()), ("at", (0,)), ("waits", ()), ("wait", 1), ("stands", 0), (1, 0), ((), ()), (), ("carry",),
                 ("carry", True), ("carry", "x"), ("carry", 1, 2), ["carry", 1], ("wait",), ("wait", [0]),
                 ("wait", (2,)), ("wait", (True,)), ("wait", (0, 0, 0)), ("wait", 0), ("at", 3), ("at", -1), ("at", True),
                 ("stand", 2), ("stand", -1), ("stand", False), ("stand",), (0, 1), (True, 1), (True,), (True, False, True),
                 [True, False], ("good", "good"), ["good"], "good", ("bad",), ("off", 0), None, 0, True]

    def atoms(self):
        for atom, shapes in self.SHAPES.items():
            if atom[0] == "sum":
                yield ("sum", list(atom[1]), atom[2]), shapes
            elif atom[0] == "told":
                yield ("told", (1, [[0, 1], [1, 0]], [False, True]), ["x"]), shapes
            else:
                yield atom, shapes

    def test_shapes(self):
        every = [shape for _, shapes in self.atoms() for shape in shapes]
        for atom, shapes in self.atoms():
            for label in every + self.NO_SHAPES + [value for value, _ in POOL.entries]:
                fits = repr(label) in [repr(shape) for shape in shapes] or atom[0] == "sum" and repr(label) == "('carry', 1)"
                for letter in range(4):
                    found = label_behind(atom, XY, label, letter)
                    self.assertIs(found is not None, fits, (atom, label))
                if not fits:
                    self.assertIs(is_good(atom, label), False)

    def test_which_are_good(self):
        good = [("carry", 0), ("carry", -BIG), ("carry", 7), ("good",), ("good",), ("wait", ()), ("wait", (0,)), ("wait", ()),
                ("less",), (False, True), (True, True), ("one",), ("one",), ("stand", 1)]
        found = [label for atom, shapes in self.atoms() for label in shapes if is_good(atom, label)]
        self.assertEqual(repr(found), repr(good))
        told = {repr(is_good(atom, label)) for atom, shapes in self.atoms() for label in shapes}
        self.assertEqual(told, {"True", "False"})

    def test_what_comes_behind_labels_that_no_bits_reach(self):
        self.assertEqual(label_behind(("sum", [(2, "x")], 0), ["x"], ("carry", BIG - 1), 1), ("carry", (BIG + 1) // 2))
        self.assertEqual(label_behind(("sum", [(2, "x")], 0), ["x"], ("carry", -6), 1), ("carry", -2))
        self.assertEqual(label_behind(("sum", [(1, "x")], 0), ["x"], ("carry", -3), 1), ("carry", -1))
        self.assertEqual(label_behind(("sum", [(1, "x")], 0), ["x"], ("carry", -3), 0), ("off",))
        self.assertEqual(label_behind(("below", "x", "x"), ["x"], ("less",), 1), ("less",))
        self.assertEqual(label_behind(("under", "x", "x"), ["x"], (True, False), 1), (True, True))
        self.assertEqual(label_behind(("bit", 2, "x"), ["x"], ("at", 2), 1), ("one",))
        self.assertEqual(label_behind(("bit", 2, "x"), ["x"], ("one",), 0), ("one",))
        self.assertEqual(label_behind(("down", 2, "x", "y"), XY, ("wait", (1,)), 0), ("wait", (1, 0)))
        self.assertEqual(label_behind(("down", 2, "x", "y"), XY, ("wait", (1, 0)), 0), ("off",))
        self.assertEqual(label_behind(("down", 2, "x", "y"), XY, ("wait", (1, 0)), 3), ("wait", (0, 1)))

    def test_letters_of_more_names(self):
        names = ["a", "x", "y", "z"]
        for letter in range(16):
            x, y = letter // 2 % 2, letter // 4 % 2
            wanted = ("less",) if x < y else ("not",)
            self.assertEqual(label_behind(("below", "x", "y"), names, ("not",), letter), wanted)

    def test_wrong_names_and_letters(self):
        atom = ("below", "y", "x")
        for names in ([], ["x"], ["y", "x"], ["x", "x", "y"], ["a", "b", "c", "d", "e", "x", "y"], ("x", "y"), None, ["x", "y", 1]):
            for error in (raised_by(label_behind, atom, names, None, None), raised_by(atom_table, atom, names)):
                self.assertIs(error.__class__, InvalidNames)
                self.assertIs(error.value, names)
        for letter in (4, -1, True, None, [1], "1"):
            for label in (("less",), None, ("carry", 1)):
                error = raised_by(label_behind, atom, XY, label, letter)
                self.assertIs(error.__class__, InvalidNumber)
                self.assertIs(error.value, letter)
        self.assertIs(raised_by(label_behind, ("sum", [], 0), [], ("carry", 2), 1).__class__, InvalidNumber)
        self.assertEqual(label_behind(("sum", [], 0), [], ("carry", 2), 0), ("carry", 1))
        self.assertIs(raised_by(label_behind, ("and",), None, None, None).__class__, InvalidClaim)


class AtomTablesTest(unittest.TestCase):

    def test_tables_take_just_what_holds(self):
        for atom in made_atoms(120):
            for names in (names_in(atom), XYZ):
                table, labels = atom_table(atom, names)
                self.assertIs(is_table(table), True)
                self.assertTrue(have_new_lists([table, labels], [atom, names]))
                self.look_at_labels(atom, names, table, labels)
            for width in range(3):
                for filling in fillings(XYZ, width):
                    words = dict(filling)
                    inner = [(name, words[name]) for name in names_in(atom)]
                    row = row_of(width, [word for _, word in filling])
                    self.assertIs(takes(table, row), holds_plainly(atom, width, inner))
                    self.assertEqual(labels[stand_behind(table, row)], label_of(atom, width, inner))

    def look_at_labels(self, atom, names, table, labels):
        many, steps, ends = table
        self.assertEqual([many, len(steps), len(ends)], [len(names), len(labels), len(labels)])
        self.assertEqual(len(set(labels)), len(labels))
        self.assertEqual(labels[0], first_label(atom))
        self.assertEqual(ends, [is_good(atom, label) for label in labels])
        self.assertLessEqual(len(labels), most_stands(atom))
        seen = [0]
        for stand, step in enumerate(steps):
            for letter, behind in enumerate(step):
                self.assertEqual(label_behind(atom, names, labels[stand], letter), labels[behind])
                if behind not in seen:
                    seen.append(behind)
        self.assertEqual(seen, list(range(len(labels))))

    def test_tables_that_are_least(self):
        for atom in made_atoms(300):
            table, _ = atom_table(atom, XYZ)
            odd = atom[0] == "sum" and any(k % 2 == 1 for k, _ in atom[1])
            apart = atom[0] in ("below", "under") and atom[1] != atom[2]
            if odd or apart or atom[0] in ("bit", "top"):
                self.assertIs(is_least(table), True, atom)

    def test_bounds(self):
        bounds = [(("sum", [(3, "x"), (-5, "y")], 0), 10), (("sum", [(3, "x"), (-5, "y")], 9), 16),
                  (("sum", [(3, "x"), (-5, "y")], -9), 14), (("sum", [], 0), 2), (("bits", "both", "x", "y", "z"), 2),
                  (("off", "x", "y"), 2), (("below", "x", "y"), 2), (("top", "x"), 2), (("down", 0, "x", "y"), 2),
                  (("down", 8, "x", "y"), 512), (("under", "x", "y"), 4), (("bit", 0, "x"), 3), (("bit", 8, "x"), 11),
                  (("told", (0, [[0]] * 7, [True] * 7), []), 7)]
        self.assertEqual([most_stands(atom) for atom, _ in bounds], [bound for _, bound in bounds])
        self.assertEqual(len(atom_table(("down", 8, "x", "y"), XY)[1]), 512)
        self.assertEqual(len(atom_table(("bit", 8, "x"), ["x"])[1]), 11)

    def test_limits(self):
        names = list("abcdef")
        terms = [(100 if number % 2 else -99, name) for number, name in enumerate(names)]
        table, labels = atom_table(("sum", terms, 1000), names)
        self.assertLessEqual(len(labels), most_stands(("sum", terms, 1000)))
        self.assertEqual(len(table[1][0]), 64)
        many = Maker(1).table(6, 200)
        self.assertEqual(atom_table(("told", many, names), names)[1][0], ("stand", 0))
        for width in (0, 1):
            for letters in itertools.product(range(2 ** width), repeat=6):
                filling = list(zip(names, letters))
                self.assertIs(plainly_takes(table, plain_letters(width, letters)),
                              holds_plainly(("sum", terms, 1000), width, filling))


class CarriesTest(unittest.TestCase):

    def test_against_all_letters(self):
        sums = [atom for atom in made_atoms(400) if atom[0] == "sum"]
        sums += [("sum", [(k, name) for k, name in zip(ks, "abcdefgh")], c)
                 for ks, c in (((8, -4, 16), 32), ((100, -100, 99, -99), 1000), ((2, 2, 2, 2, 2, 2, 2, 2), -5), ((1,), -1000))]
        for atom in sums:
            told = plain_carries(atom, 14)
            for width, carries in enumerate(told):
                wanted = (carries[0], carries[-1]) if carries else None
                self.assertEqual(carry_bounds(atom, width), wanted, (atom, width))
            self.assertEqual(carries_met(atom), sorted({carry for carries in told for carry in carries}), atom)

    def test_against_the_labels_of_tables(self):
        for atom in made_atoms(300):
            if atom[0] == "sum":
                labels = atom_table(atom, XYZ)[1]
                self.assertEqual(carries_met(atom), sorted(label[1] for label in labels if label != ("off",)))

    def test_bounds_that_always_hold(self):
        for atom in made_atoms(300):
            if atom[0] == "sum":
                above = sum(k for k, _ in atom[1] if k > 0)
                below = sum(k for k, _ in atom[1] if k < 0)
                self.assertTrue(all(min(atom[2], below) <= carry <= max(atom[2], above) for carry in carries_met(atom)))
                for width in (20, 300):
                    told = carry_bounds(atom, width)
                    self.assertTrue(told is None or below <= told[0] <= told[1] <= above)

    def test_at_the_width_300_and_with_many_terms(self):
        self.assertEqual(carry_bounds(("sum", [(1, "x"), (1, "y"), (-1, "z")], 0), 300), (0, 1))
        self.assertEqual(carry_bounds(("sum", [], 2 ** 90), 89), (2, 2))
        self.assertEqual([carry_bounds(("sum", [], 2 ** 90), width) for width in (90, 91, 300)], [(1, 1), None, None])
        self.assertEqual(carries_met(("sum", [], 2 ** 90)), [2 ** place for place in range(91)])
        self.assertEqual([carries_met(("sum", [], 0)), carry_bounds(("sum", [], 0), 300)], [[0], (0, 0)])
        names = sorted(f"a{number}" for number in range(60))
        atom = ("sum", [(100 if number % 2 else -100, name) for number, name in enumerate(names)], -1000)
        self.assertEqual([carry_bounds(atom, 0), carry_bounds(atom, 1)], [(-1000, -1000), (-2000, 1000)])
        self.assertEqual(carry_bounds(atom, 300), (carries_met(atom)[0], carries_met(atom)[-1]))
        wide = ("sum", [(number % 7 + 1, name) for number, name in enumerate(names)], 3)
        self.assertEqual(carry_bounds(wide, 300), (1, sum(k for k, _ in wide[1]) - 1))

    def test_what_is_no_sum_and_no_width(self):
        for atom in (("top", "x"), ("sum", [(0, "x")], 1), None, ("below", "x", "y"), ("and",)):
            for error in (raised_by(carries_met, atom), raised_by(carry_bounds, atom, -1)):
                self.assertIs(error.__class__, InvalidClaim)
                self.assertIs(error.value, atom)
        for width in (301, -1, True, None, "1"):
            error = raised_by(carry_bounds, ("sum", [], 1), width)
            self.assertIs(error.__class__, InvalidWidth)
            self.assertIs(error.value, width)


if __name__ == "__main__":
    unittest.main()
