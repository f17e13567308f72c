"""What the tests share: any values, made claims and tables, plain reckonings, and looks at lists."""

import copy
import itertools
import random

from howeverwide import errors
from howeverwide.solver import Solver


class Pool:
    """Any values, each with the kinds of argument for which it is right."""

    def __init__(self):
        self.entries = []

    def add(self, value, *kinds):
        more = {"piece"} if "atom" in kinds else {"string"} if isinstance(value, str) else set()
        self.entries.append((value, set(kinds) | more))

    def wrong(self, kind):
        return [value for value, kinds in self.entries if kind not in kinds]

    def right(self, kind):
        return [value for value, kinds in self.entries if kind in kinds]


def nested(make, inner, deep):
    value = inner
    for _ in range(deep):
        value = make(value)
    return value


def make_pool():
    pool = Pool()
    pool.add(None)
    pool.add(True)
    pool.add(False)
    number, count = ("expression", "whole"), ("expression", "whole", "count")
    pool.add(0, "width", "word", "place", "bit", "many", "letter", "wide", "later", "to 8", "to 2000", *count)
    pool.add(1, "width", "word", "place", "bit", "one or two", "many", "many above 0", "letter", "wide", "later", "to 8", "to 2000", *count)
    pool.add(2, "width", "word", "one or two", "many", "many above 0", "letter", "wide", "later", "to 8", "by", "by to 50", "to 2000", *count)
    pool.add(3, "width", "word", "many", "many above 0", "letter", "wide", "later", "to 8", "by", "by to 50", "to 2000", *count)
    pool.add(6, "width", "word", "many", "many above 0", "wide", "later", "to 8", "by", "by to 50", "to 2000", *count)
    pool.add(7, "width", "word", "wide", "later", "to 8", "by", "by to 50", "to 2000", *count)
    pool.add(8, "width", "wide", "later", "to 8", "by", "by to 50", "to 2000", *count)
    pool.add(64, "width", "wide", "later", "by", "to 2000", *count)
    pool.add(65, "wide", "later", "by", "to 2000", *count)
    pool.add(100, "wide", "later", "by", "to 2000", *count)
    pool.add(101, "wide", "by", "to 2000", *count)
    pool.add(300, "wide", "by", "to 2000", *count)
    pool.add(301, "by", "to 2000", *count)
    pool.add(-1, *number)
    pool.add(1001, "by", "to 2000", *count)
    pool.add(10 ** 30 - 1, *count)
    pool.add(1 - 10 ** 30, *number)
    pool.add("", "sheet")
    pool.add("x", "name", "expression", "expression text", "name x")
    pool.add("t1", "name", "expression", "expression text")
    pool.add("all")
    pool.add("and", "way", "way of widths", "claim text")
    pool.add("or", "way", "way of widths", "claim text")
    pool.add("then", "way")
    pool.add("unlike", "name", "expression", "way", "way of widths", "expression text")
    pool.add("noughts", "way of wider")
    pool.add("top", "way of wider")
    pool.add("x012")
    pool.add("xyzxyzx")
    pool.add("X")
    pool.add("bit 0 x", "claim text")
    pool.add("(x + 1)", "expression text")
    pool.add("x ")
    pool.add("\t\n~")
    pool.add("(01)", "widths text")
    pool.add("110(0)", "widths text")
    pool.add("()")
    pool.add("1(2)")
    pool.add(())
    pool.add([], "names", "row", "pairs", "rows", "words", "bits", "road", "filling", "claims", "lot", "lots", "terms")
    pool.add({})
    pool.add({"x": 1})
    pool.add({"plus": "x"})
    pool.add((0,))
    pool.add((1, 2))
    pool.add([0], "row", "bits", "words", "places", "lot")
    pool.add([1, 0, 1], "row", "bits", "words")
    pool.add([True])
    pool.add([0, False])
    pool.add([4], "words", "places")
    pool.add([2], "words", "places", "road", "lot")
    pool.add((2,))
    pool.add([-1])
    pool.add([8], "places")
    pool.add([0] * 7, "row", "bits")
    pool.add([0] * 65, "row")
    pool.add([None])
    pool.add(["x"], "names", "wanted")
    pool.add(["x", "y"], "names", "names x y", "two names", "wanted")
    pool.add(("x", "y"))
    pool.add(["y", "x"])
    pool.add(["x", "x"])
    pool.add(["x", "all"])
    pool.add(["x", None])
    pool.add([("x", 1)], "filling")
    pool.add([("x", 1), ("y", 2)], "filling x y", "filling")
    pool.add((("x", 1), ("y", 2)))
    pool.add([("y", 2), ("x", 1)])
    pool.add([["x", 1], ["y", 2]])
    pool.add([("x", True), ("y", 2)])
    pool.add([("x", 8), ("y", 2)])
    pool.add([("x", 1), ("y", -1)])
    pool.add([("x", 1), ("y", 2), ("z", 0)], "filling")
    pool.add([("x", "y")], "pairs")
    pool.add([("x", "y"), ("y", "x")], "pairs")
    pool.add([("x", "y"), ("y", "y")])
    pool.add([("x", "y"), ("x", "z")])
    pool.add([["x", "y"]])
    pool.add([("x", "y", "z")])
    pool.add([("x", 5)], "filling")
    pool.add([[], [1], [1, 0]], "rows")
    pool.add([[0, 2], [1], []], "lots")
    pool.add([[0, 2], [1, 1]])
    pool.add([[], [4]])
    pool.add([[], (1,)])
    pool.add([[], [True]])
    pool.add(("plus", "x", "y"), "expression")
    pool.add(["plus", "x", "y"], "names", "names x y")
    pool.add(["under", "x", "y"])
    pool.add(("plus", "x"))
    pool.add(("plus", "x", "y", "z"))
    pool.add(("plus", "x", True))
    pool.add(("times", 3, "x"), "expression")
    pool.add(("times", "x", 3))
    pool.add(("times", True, "x"))
    pool.add(("up", -1, "x"))
    pool.add(("down", 9, "x"), "expression")
    pool.add(("same", "x", "y"), "claim")
    pool.add(("below", "x", "y"), "claim", "atom")
    pool.add(("below", "x", 1), "claim")
    pool.add(["below", "x", "y"], "names", "names x y")
    pool.add(("below", "x"))
    pool.add(("bit", True, "x"))
    pool.add(("bit", -1, "x"))
    pool.add(("bit", 9, "x"), "claim", "atom")
    pool.add(("top", "x"), "claim", "atom")
    pool.add(("not", "x"))
    pool.add(("not", ("top", "x"), ("top", "x")))
    pool.add(("and",), "claim", "piece")
    pool.add(("and", "x"))
    pool.add(("then", ("top", "x")))
    pool.add(("some", "x", ("top", "x")), "claim", "piece")
    pool.add(("some", "all", ("top", "x")))
    pool.add(("some", 1, ("top", "x")))
    table = (1, [[0, 1], [1, 0]], [True, False])
    pool.add(table, "table")
    pool.add((2, [[0, 0, 1, 0], [1, 0, 1, 1]], [False, True]), "table")
    pool.add([1, [[0, 1], [1, 0]], [True, False]])
    pool.add((1, ([0, 1], [1, 0]), [True, False]))
    pool.add((1, [(0, 1), (1, 0)], [True, False]))
    pool.add((1, [[0, 1], [1, 0]], (True, False)))
    pool.add((1, [[0, 1], [1, 0]], [1, 0]))
    pool.add((1, [[0, 1], [1, 2]], [True, False]))
    pool.add((1, [[0, 1], [1, True]], [True, False]))
    pool.add((1, [[0, 1], [1]], [True, False]))
    pool.add((1, [[0, 1]], [True, False]))
    pool.add((1, [], []))
    pool.add((True, [[0, 1], [1, 0]], [True, False]))
    pool.add((7, [[0] * 128], [True]))
    pool.add((1, [[0, 1], [1, 0]]))
    pool.add(("told", table, ["x"]), "claim", "atom")
    pool.add(("told", table, ["x", "y"]))
    pool.add(("told", table, ("x",)))
    pool.add(("told", (2, [[0] * 4], [True]), ["x", "x"]))
    pool.add(("told", (2, [[0] * 4], [True]), ["y", "x"]), "claim", "atom")
    pool.add(("sum", [(1, "x"), (-2, "y")], 3), "atom", "sum", "atom of x y")
    pool.add(("sum", [], 10 ** 29), "atom", "sum")
    pool.add(("sum", [(0, "x")], 3))
    pool.add(("sum", [(1, "y"), (1, "x")], 3))
    pool.add(("sum", [(1, "x"), (1, "x")], 3))
    pool.add(("sum", ((1, "x"),), 3))
    pool.add(("sum", [[1, "x"]], 3))
    pool.add(("sum", [(True, "x")], 3))
    pool.add(("sum", [(1, "x")], True))
    pool.add(("sum", [(1, "x")]))
    pool.add(("bits", "both", "x", "y", "x"), "atom")
    pool.add(("bits", "plus", "x", "y", "x"))
    pool.add(("bits", "both", "x", "y", 1))
    pool.add(("off", "x", "y"), "atom")
    pool.add(("down", 3, "x", "y"), "atom")
    pool.add(("down", True, "x", "y"))
    pool.add(("under", "x", ("plus", "x", 1)), "claim")
    pool.add(("carry", 1))
    pool.add(("iff", ("sum", [(1, "x")], 0), ("off", "x", "y")), "piece")
    pool.add(("then", ("sum", [(1, "x")], 0), ("off", "x", "y")))
    pool.add(("some", "x", ("sum", [(2, "x"), (1, "y")], 0)), "piece")
    pool.add(("some", "x", ("sum", [(True, "x"), (1, "y")], 0)))
    pool.add(("not", ("same", "x", "x")), "claim")
    pool.add([("same", "x", "x")], "claims")
    pool.add([("top", "x"), ("not", ("top", "x"))], "claims", "row of claims")
    pool.add((("top", "x"), ("not", ("top", "x"))))
    pool.add([("top", "x"), ("not", "x")])
    top = (("top", "x"), ["x"], (1, [[0, 1], [0, 1]], [False, True]), [("nought",), ("one",)], [])
    less = (("below", "x", "y"), ["x", "y"], (2, [[0, 0, 1, 0], [1, 0, 1, 1]], [False, True]), [("not",), ("less",)], [])
    pool.add(top, "paper")
    pool.add(less, "paper")
    pool.add((("or",), [], (0, [[0]], [False]), [("stands",)], []), "paper")
    pool.add((("or",), [], (0, [[0]], [True]), [("stands",)], []))
    pool.add((*top[:3], [("nought",), ("nought",)], []))
    pool.add(list(top))
    pool.add(top[:4])
    pool.add([top], "papers")
    pool.add([less, top], "papers")
    pool.add([less, top[:4]])
    pool.add((less, top))
    pool.add((1, 1, 0, [[0, 0, 0]], [[0, 1, 0]]), "machine")
    pool.add((0, 2, 3, [[1, 0], [1, 1]], [[3, 0], [2, 1]]), "machine")
    pool.add((1, 1, 0, [[0, 0]], [[0, 1]]))
    pool.add((1, 1, 0, [[0, 0, 0]], [[0, 2, 0]]))
    pool.add((1, 1, True, [[0, 0, 0]], [[0, 1, 0]]))
    pool.add([1, 1, 0, [[0, 0, 0]], [[0, 1, 0]]])
    pool.add(([], [True]), "widths")
    pool.add(([True, False], [False, True]), "widths")
    pool.add(([True], []))
    pool.add([[], [True]])
    pool.add(((), (True,)))
    pool.add(([], [1]))
    solver = Solver()
    solver.do(("claim", ("told", table, ["x"])))
    pool.add(solver, "solver")
    pool.add([solver])
    pool.add(("claim", ("top", "x")))
    pool.add(("push",))
    pool.add("# a\ntop x\n", "sheet")
    pool.add("top x\nbit 0")
    pool.add([(2, "x"), (-1, "y")], "terms")
    pool.add([(2, "x"), (-1, "w")])
    pool.add(errors.ClaimError())
    pool.add(errors.InvalidName("x"))
    pool.add(errors.NothingToUndo())
    pool.add(nested(lambda inner: [inner], 0, 30))
    pool.add(nested(lambda inner: (inner,), 0, 30))
    pool.add(nested(lambda inner: {"x": inner}, 0, 30))
    pool.add(nested(lambda inner: ("plus", inner, inner), None, 10))
    pool.add(nested(lambda inner: ("not", inner), "x", 30))
    pool.add(nested(lambda inner: ("turned", inner), None, 30))
    pool.add(nested(lambda inner: ("not", inner), ("top", "x"), 29), "claim", "piece")
    pool.add(nested(lambda inner: ("turned", inner), "x", 30), "expression")
    return pool


POOL = make_pool()


def lists_in(value):
    """Return all list objects in a value, as often as they stand in it."""
    if isinstance(value, dict):
        return [found for item in value.items() for found in lists_in(item)]
    if not isinstance(value, (list, tuple)):
        return []
    found = [value] if isinstance(value, list) else []
    for item in value:
        found.extend(lists_in(item))
    return found


def have_new_lists(results, arguments):
    """Tell whether no list object stands twice in results, and none of them in the arguments."""
    found = lists_in(results)
    handed = {id(item) for item in lists_in(arguments)}
    told = {id(item) for item in found}
    return len(told) == len(found) and not told & handed


def all_rows(many, width):
    return [list(row) for row in itertools.product(range(2 ** many), repeat=width)]


def rows_up_to(many, width):
    return [row for length in range(width + 1) for row in all_rows(many, length)]


def plainly_takes(table, row):
    stand = 0
    for letter in row:
        stand = table[1][stand][letter]
    return table[2][stand]


def fillings(names, width):
    """Return all fillings of names at a width, in order."""
    return [list(zip(names, words)) for words in itertools.product(range(2 ** width), repeat=len(names))]


def plain_letters(width, words):
    row = []
    for place in range(width):
        letter = 0
        for number, word in enumerate(words):
            if (word // 2 ** place) % 2 == 1:
                letter += 2 ** number
        row.append(letter)
    return row


def plain_bits(width, word):
    return [(word // 2 ** place) % 2 for place in range(width)]


def bitwise(width, one, other, rule):
    pairs = zip(plain_bits(width, one), plain_bits(width, other))
    return sum(2 ** place for place, (a, b) in enumerate(pairs) if rule(a, b))


def plain_value(width, expression, words):
    """Reckon a value as the document says, each word and bit for itself."""
    if isinstance(expression, str):
        return words[expression]
    if isinstance(expression, int):
        return expression % 2 ** width
    word, *parts = expression
    inner = plain_value(width, parts[-1], words)
    if word == "turned":
        return sum(2 ** place for place, bit in enumerate(plain_bits(width, inner)) if bit == 0)
    if word == "times":
        return parts[0] * inner % 2 ** width
    if word == "up":
        return inner * 2 ** parts[0] % 2 ** width
    if word == "down":
        return inner // 2 ** parts[0]
    first = plain_value(width, parts[0], words)
    rules = {
        "plus": lambda: (first + inner) % 2 ** width,
        "minus": lambda: (first - inner) % 2 ** width,
        "both": lambda: bitwise(width, first, inner, lambda a, b: a + b == 2),
        "either": lambda: bitwise(width, first, inner, lambda a, b: a + b >= 1),
        "unlike": lambda: bitwise(width, first, inner, lambda a, b: a + b == 1),
    }
    return rules[word]()


def plain_signed(width, word):
    return word - 2 ** width if width > 0 and word >= 2 ** (width - 1) else word


def plainly_holds(width, claim, words):
    """Tell whether a claim holds as the document says, by going through all words."""
    word, *parts = claim
    if word in ("some", "all"):
        told = [plainly_holds(width, parts[1], {**words, parts[0]: one}) for one in range(2 ** width)]
        return any(told) if word == "some" else all(told)
    if word == "told":
        return plainly_takes(parts[0], plain_letters(width, [words[name] for name in parts[1]]))
    if word in ("not", "and", "or", "then", "iff"):
        told = [plainly_holds(width, part, words) for part in parts]
        rules = {
            "not": lambda: not told[0],
            "and": lambda: all(told),
            "or": lambda: any(told),
            "then": lambda: told[1] or not told[0],
            "iff": lambda: told[0] == told[1],
        }
        return rules[word]()
    last = plain_value(width, parts[-1], words)
    if word == "bit":
        return parts[0] < width and plain_bits(width, last)[parts[0]] == 1
    if word == "top":
        return width > 0 and plain_bits(width, last)[-1] == 1
    first = plain_value(width, parts[0], words)
    if word == "same":
        return first == last
    if word == "below":
        return first < last
    return plain_signed(width, first) < plain_signed(width, last)


class Maker:
    """Makes expressions, claims, tables and atoms, the same ones for the same seed."""

    def __init__(self, seed, names=("x", "y", "z")):
        self.random = random.Random(seed)
        self.names = list(names)

    def expression(self, deep):
        pick = self.random.choice
        if deep == 0 or self.random.random() < 0.25:
            return pick(self.names + [self.random.randint(-20, 20)])
        word = pick(["plus", "minus", "times", "both", "either", "unlike", "turned", "up", "down"])
        inner = self.expression(deep - 1)
        if word == "turned":
            return (word, inner)
        if word == "times":
            return (word, self.random.randint(-5, 5), inner)
        if word in ("up", "down"):
            return (word, self.random.randint(0, 4), inner)
        return (word, self.expression(deep - 1), inner)

    def table(self, many, stands):
        steps = [[self.random.randrange(stands) for _ in range(2 ** many)] for _ in range(stands)]
        return (many, steps, [self.random.random() < 0.5 for _ in range(stands)])

    def claim(self, deep, binds=2):
        pick = self.random.choice
        if deep == 0 or self.random.random() < 0.15:
            return self.simple_claim()
        word = pick(["not", "and", "or", "then", "iff", "some", "all", "some", "all"])
        if word in ("some", "all"):
            if binds == 0:
                return self.simple_claim()
            return (word, pick(self.names), self.claim(deep - 1, binds - 1))
        many = {"not": 1, "then": 2, "iff": 2}.get(word, self.random.randint(0, 3))
        return (word, *[self.claim(deep - 1, binds) for _ in range(many)])

    def simple_claim(self):
        word = self.random.choice(["same", "below", "under", "bit", "top", "told", "told"])
        if word == "told":
            many = self.random.randint(0, min(2, len(self.names)))
            return (word, self.table(many, self.random.randint(1, 4)), self.random.sample(self.names, many))
        if word == "bit":
            return (word, self.random.randint(0, 3), self.expression(2))
        if word == "top":
            return (word, self.expression(2))
        return (word, self.expression(2), self.expression(2))

    def atom(self):
        pick = self.random.choice
        word = pick(["sum", "sum", "bits", "off", "down", "below", "under", "bit", "top", "told"])
        x, y, z = [pick(self.names) for _ in range(3)]
        if word == "sum":
            names = sorted(self.random.sample(self.names, self.random.randint(0, len(self.names))))
            return (word, [(pick([-7, -4, -2, -1, 1, 2, 3, 6]), name) for name in names], self.random.randint(-9, 9))
        if word == "bits":
            return (word, pick(["both", "either", "unlike"]), x, y, z)
        if word == "down":
            return (word, self.random.randint(0, 3), x, y)
        if word == "bit":
            return (word, self.random.randint(0, 3), x)
        if word == "top":
            return (word, x)
        if word == "told":
            many = self.random.randint(0, min(2, len(self.names)))
            return (word, self.table(many, self.random.randint(1, 5)), self.random.sample(self.names, many))
        return (word, x, y)


def raised_by(function, *arguments, **named):
    """Return the error that a call raises, None if it raises none."""
    try:
        function(*arguments, **named)
    except Exception as error:
        return error
    return None


def kept(value):
    """Return a copy of a value, to be held against it later."""
    return copy.deepcopy(value)
