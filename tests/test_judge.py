"""Promises 49 to 51: the judge of papers, held against a plain reading of the document's rules."""

import unittest

from howeverwide.errors import InvalidClaim, InvalidWidth, TooMany
from howeverwide.judge import is_no, is_no_at, is_paper
from howeverwide.papers import no_paper, no_paper_at, paper_and, paper_not, paper_of, paper_some, stands_in
from howeverwide.pieces import piece_of
from tests.plain_pieces import is_plainly_right, plain_piece_holds
from tests.support import POOL, Maker, fillings, kept, nested, plain_letters, plainly_takes, raised_by

BELOW = (("below", "x", "y"), ["x", "y"], (2, [[0, 0, 1, 0], [1, 0, 1, 1]], [False, True]), [("not",), ("less",)], [])
TOP = (("top", "x"), ["x"], (1, [[0, 1], [0, 1]], [False, True]), [("nought",), ("one",)], [])
TOLD = ("told", (1, [[1, 0], [0, 1], [2, 2], [3, 0]], [True, False, True, True]), ["x"])
NEVER = ("below", "x", "x")
ODD_LABELS = [None, True, 0, "off", (), [], ("off",), ("off", 0), ["off"], ("good",), ("not",), ("less",), ("one",), ("nought",),
              ("at", 0), ("at", 1), ("at", True), ("at", 9), ("at", -1), ("carry", 0), ("carry", 1), ("carry", True),
              ("carry", None), ("carry",), ("wait", ()), ("wait", (0,)), ("wait", (True,)), ("wait", (2,)), ("wait", [0]),
              ("wait", (0, 0, 0, 0)), (True, False), (False, False), (1, 0), ("stand", 0), ("stand", 1), ("stand", False),
              ("stand", -1), ("stand", 99), ("stand",), ("stand", 0, 0), ("stands",), ("stands", 0), ("stands", 0, 0),
              ("stands", 0, True), ("stands", 0, 0, 0), ("stands", 0, 99), ("stands", 0, -1), ("lot",), ("lot", 0), ("lot", 1),
              ("lot", 0, 1), ("lot", 1, 0), ("lot", 0, 0), ("lot", True), ("lot", -1), ("lot", 0, 99), ["lot", 0], ("lot", (0,))]


def changed(sequence, place, item):
    """A copy of a list or a tuple with another item."""
    made = list(sequence)
    made[place] = item
    return made if isinstance(sequence, list) else tuple(made)


def bent(paper):
    """All papers that differ from one in a label, a step, an end, a name, the piece, or in how many parts there are, or in a part."""
    piece, names, (many, steps, ends), labels, parts = paper
    for stand, label in enumerate(labels):
        for other in labels + ODD_LABELS:
            yield piece, names, (many, steps, ends), changed(labels, stand, other), parts
        yield piece, names, (many, steps, changed(ends, stand, not ends[stand])), labels, parts
        for letter, behind in enumerate(steps[stand]):
            other = changed(steps[stand], letter, (behind + 1) % len(steps))
            yield piece, names, (many, changed(steps, stand, other), ends), labels, parts
    for other in (names[::-1], names + ["zz"], names[1:], ["aa"] + names[1:]):
        yield piece, other, (many, steps, ends), labels, parts
    for other in (("not", piece), ("and", piece), ("some", "x", piece), ("top", "x"), ("and",)):
        yield other, names, (many, steps, ends), labels, parts
    for other in ([], parts + parts, parts[:1], parts[::-1], [paper], [TOP], [BELOW]):
        yield piece, names, (many, steps, ends), labels, other
    for place, part in enumerate(parts):
        for number, other in enumerate(bent(part)):
            # Parts within parts are bent the same way, so a few of each are enough.
            if number % 7 == 0:
                yield piece, names, (many, steps, ends), labels, changed(parts, place, other)


def is_plain_form(paper):
    """Tell whether a bent paper has a table whose lists fit, so that the plain reading can read it."""
    many, steps, ends = paper[2]
    return len(steps) == len(ends) and all(len(step) == 2 ** many for step in steps)


def with_stand(paper, label, step, end):
    """The paper with one stand more, to which no row leads."""
    piece, names, (many, steps, ends), labels, parts = paper
    return piece, names, (many, steps + [step], ends + [end]), labels + [label], parts


def on_names(paper, names):
    """The paper on further names."""
    piece, old, (many, steps, ends), labels, parts = paper
    places = [names.index(name) for name in old]
    letters = [sum(2 ** number * (letter // 2 ** place % 2) for number, place in enumerate(places)) for letter in range(2 ** len(names))]
    table = (len(names), [[step[letter] for letter in letters] for step in steps], ends)
    around = len(parts) == 1 and parts[0][0] == piece
    return piece, names, table, labels, [on_names(part, names) for part in parts] if around else parts


def made_claims(seeds, deep, names=("x", "y")):
    for seed in range(seeds):
        claim = Maker(seed, names).claim(deep, 1)
        try:
            paper_of(claim)
        except TooMany:
            continue
        yield claim


class JudgeTest(unittest.TestCase):

    def both(self, paper):
        """Hold the judge against the plain reading; return what both say."""
        told = is_paper(paper)
        self.assertIs(told, is_plainly_right(paper), paper)
        return told

    def test_papers_of_claims_are_right(self):
        for claim in made_claims(80, 3):
            paper = paper_of(claim)
            before = kept(paper)
            self.assertIs(self.both(paper), True, claim)
            self.assertEqual(paper, before)

    def test_a_right_paper_takes_just_what_meets_its_piece(self):
        for claim in made_claims(80, 2):
            paper = paper_of(claim)
            for width in range(3):
                for filling in fillings(paper[1], width):
                    row = plain_letters(width, [word for _, word in filling])
                    self.assertIs(plainly_takes(paper[2], row), plain_piece_holds(width, paper[0], dict(filling)))

    def test_bent_papers(self):
        found = {True: 0, False: 0}
        for claim in list(made_claims(40, 2)) + [("below", "x", 1), ("bit", 2, "x"), ("under", "x", "y"), ("and",), TOLD]:
            paper = paper_of(claim)
            for paper in (paper, paper[4][0]):
                if stands_in(paper) > 80:
                    continue
                for number, other in enumerate(bent(paper)):
                    if is_plain_form(other) and number % 2 == 0:
                        found[self.both(other)] += 1
        self.assertGreater(found[True], 100)
        self.assertGreater(found[False], 3000)

    def test_each_kind_bent(self):
        carry = (("sum", [(1, "x"), (-2, "y")], 1), ["x", "y"], None, None, [])
        papers = [BELOW, TOP, paper_of(("and", ("top", "x"), ("top", "y")))[4][0], paper_of(("or", ("top", "x"), ("below", "x", "y"), ("and",)))[4][0],
                  paper_of(("iff", ("top", "x"), ("bit", 1, "y")))[4][0], paper_of(("not", ("under", "x", "y")))[4][0],
                  paper_of(("some", "y", ("below", "x", "y")))[4][0], paper_of(("same", ("plus", "x", 1), ("times", 2, "y")))[4][0],
                  paper_of(("top", ("down", 2, "x"))), paper_of(("same", ("both", "x", "y"), 0)), paper_of(("bit", 3, "x"))]
        self.assertEqual(papers[7][0], carry[0])
        for paper in papers:
            self.assertIs(self.both(paper), True)
            for other in bent(paper):
                if is_plain_form(other):
                    self.both(other)

    def test_stands_that_no_row_reaches(self):
        # They may have any label of their kind, as long as what comes of it is there.
        for label in (("off",), ("carry", 4), ("good",), ("less",), None, (), ("lot", 0), ("off", 0)):
            for step in ([2, 2], [0, 1], [0, 0]):
                for end in (True, False):
                    sums = (("sum", [(2, "x")], 0), ["x"], (1, [[0, 1], [2, 2], [2, 2]], [True, True, False]),
                            [("carry", 0), ("carry", 1), ("off",)], [])
                    self.both(with_stand(sums, label, step, end))
        sums = (("sum", [], 0), ["x"], (1, [[0, 0], [1, 1], [2, 2], [1, 1], [2, 2]], [True, True, False, True, True]),
                [("carry", 0), ("carry", 0), ("off",), ("carry", 0), ("carry", -1)], [])
        self.assertIs(self.both(sums), True)
        self.assertIs(self.both(changed(sums, 3, changed(sums[3], 4, ("off",)))), False)
        right = changed(sums, 2, (1, sums[2][1], [True, True, False, True, False]))
        self.assertIs(self.both(changed(right, 3, changed(sums[3], 4, ("off",)))), True)
        self.assertIs(self.both(changed(right, 3, changed(sums[3], 3, ("carry", 1)))), False)
        below = with_stand(BELOW, ("less",), [1, 0, 1, 2], True)
        self.assertIs(self.both(below), True)
        for label in (("not",), None, ("lesser",), ("less", 0)):
            self.assertIs(self.both(changed(below, 3, changed(below[3], 2, label))), False)
        told = paper_of(TOLD)[4][0]
        for stand, end in ((2, True), (3, True)):
            step = [stand, stand] if stand == 2 else [3, 0]
            more = with_stand(told, ("stand", stand), [2, 2] if stand == 2 else [2, 0], end)
            self.assertIs(self.both(more), True, (step, more))
        self.assertIs(self.both(with_stand(told, ("stand", 4), [0, 0], True)), False)
        negated = paper_not(told)
        self.assertIs(self.both(with_stand(negated, ("stand", 1), [0, 1], True)), True)
        self.assertIs(self.both(with_stand(negated, ("stand", 1), [0, 1], False)), False)

    def test_lots_that_no_row_reaches(self):
        above = paper_some(BELOW, "x")
        self.assertEqual(above[2:4], ((1, [[0, 1], [1, 1]], [False, True]), [("lot", 0), ("lot", 0, 1)]))
        self.assertIs(self.both(with_stand(above, ("lot", 1), [1, 2], True)), True)
        self.assertIs(self.both(with_stand(above, ("lot", 1), [1, 1], True)), False)
        self.assertIs(self.both(with_stand(above, ("lot", 1), [1, 2], False)), False)
        for label in (("lot",), ("lot", 1, 1), ("lot", 2), ("lot", 1, 0), ("stand", 1), ("lot", True)):
            self.assertIs(self.both(with_stand(above, label, [1, 2], True)), False, label)
        # Lots are not empty, though no end is in an empty one, and nothing comes of it.
        self.assertIs(self.both(with_stand(above, ("lot",), [2, 2], False)), False)
        around = paper_of(("some", "x", ("below", "x", "y")))
        self.assertIs(self.both(with_stand(around, ("lot",), [2, 2], False)), False)
        self.assertIs(self.both(with_stand(around, ("lot",), [0, 1], True)), False)
        self.assertEqual(around[3], [("lot", 0), ("lot", 1)])
        self.assertIs(self.both(with_stand(around, ("lot", 1), [1, 2], True)), True)
        self.assertIs(self.both(with_stand(around, ("lot", 0, 1), [1, 1], True)), False)
        self.assertIs(self.both(with_stand(around, ("lot", 1), [1, 0], True)), False)

    def test_least_ones_need_not_be_least(self):
        """Labels around another paper may be finer than they need be, and one within another."""
        told = (("told", (0, [[1], [2], [2]], [True, True, True]), []), [], (0, [[1], [2], [2]], [True] * 3),
                [("stand", 0), ("stand", 1), ("stand", 2)], [])
        self.assertIs(self.both(told), True)

        def around(steps, ends, labels, part=told):
            return part[0], part[1], (len(part[1]), steps, ends), labels, [part]

        one = around([[0]], [True], [("lot", 0, 1, 2)])
        self.assertIs(self.both(one), True)
        self.assertIs(self.both(around([[1], [1]], [True, True], [("lot", 0), ("lot", 1, 2)])), True)
        self.assertIs(self.both(around([[1], [1]], [True, True], [("lot", 0, 1), ("lot", 1, 2)])), True)
        self.assertIs(self.both(around([[1], [1]], [True, True], [("lot", 0, 1, 2), ("lot", 0, 1, 2)])), True)
        self.assertIs(self.both(around([[1], [1]], [True, True], [("lot", 0, 1), ("lot", 2)])), False)
        self.assertIs(self.both(around([[1], [1]], [True, True], [("lot", 1), ("lot", 0, 1, 2)])), False)
        self.assertIs(self.both(around([[0]], [False], [("lot", 0, 1, 2)])), False)
        self.assertIs(self.both(around([[0]], [True], [("lot", 0, 1, 2)], one)), False)
        # Least ones within one another.
        two = around([[0]], [True], [("lot", 0)], one)
        self.assertIs(self.both(two), True)
        self.assertIs(self.both(around([[0]], [True], [("lot", 0)], two)), True)
        for other in bent(two):
            if is_plain_form(other):
                self.both(other)
        # Around a paper stand those on just its names, with tables of just as many.
        plain = (("sum", [], 0), ["x"], (1, [[0, 0]], [True]), [("carry", 0)], [])
        none = (("sum", [], 0), [], (0, [[0]], [True]), [("carry", 0)], [])
        self.assertEqual([self.both(plain), self.both(none)], [True, True])
        for part, names, many, right in ((plain, ["x"], 1, True), (none, [], 0, True), (none, ["x"], 1, False), (plain, ["x", "y"], 2, False),
                                         (plain, ["x"], 0, False), (plain, ["x"], 2, False), (none, [], 1, False), (plain, [], 0, False)):
            made = (("sum", [], 0), names, (many, [[0] * 2 ** many], [True]), [("lot", 0)], [part])
            self.assertIs(self.both(made), right, made)
        mixed = (("top", "x"), ["x"], (1, [[0, 0]], [True]), [("lot", 0, 1)], [TOP])
        self.assertIs(self.both(mixed), False)

    def test_further_names(self):
        for claim in list(made_claims(40, 2, ("b", "d"))) + [("some", "c", ("below", "b", "c")), ("some", "b", ("below", "b", "d"))]:
            paper = paper_of(claim)
            wide = on_names(paper, ["a", "b", "c", "d"])
            self.assertIs(self.both(wide), True, claim)
            self.assertIs(is_paper(on_names(paper, ["a", "b", "c", "d", "e", "f"])), True)
            self.assertIs(is_paper(on_names(paper, ["a", "b", "c", "d", "e", "f", "g"])), False)

    def test_a_bound_name_hides_the_papers_own(self):
        above = paper_some(BELOW, "x")
        hiding = on_names(above, ["x", "y"])
        self.assertEqual(hiding[2][1], [[0, 0, 1, 1], [1, 1, 1, 1]])
        self.assertIs(self.both(hiding), True)
        self.assertIs(self.both(changed(hiding, 2, (2, [[0, 0, 1, 0], [1, 1, 1, 1]], [False, True]))), False)
        # The part may lack the bound name, and may have names more.
        lone = paper_some(paper_and([TOP, paper_of(("bit", 0, "z"))]), "z")
        self.assertIs(self.both(lone), True)
        lacking = (("some", "z", TOP[0]), ["x"], (1, [[0, 1], [0, 1]], [False, True]), [("lot", 0), ("lot", 1)], [TOP])
        self.assertIs(self.both(lacking), True)
        self.assertIs(self.both(on_names(lacking, ["x", "z"])), True)
        self.assertIs(self.both(changed(lacking, 4, [on_names(TOP, ["x", "z"])])), True)
        self.assertIs(self.both(changed(lacking, 4, [on_names(TOP, ["x", "y"])])), False)

    def test_parts_on_fewer_or_other_names(self):
        both = paper_and([TOP, BELOW])
        self.assertIs(self.both(both), True)
        self.assertIs(self.both(changed(both, 4, [on_names(TOP, ["x", "y"]), BELOW])), True)
        self.assertIs(self.both(changed(both, 4, [on_names(TOP, ["x", "z"]), BELOW])), False)
        self.assertIs(self.both(changed(both, 4, [BELOW, TOP])), False)
        negated = paper_not(on_names(TOP, ["w", "x"]))
        self.assertIs(self.both(negated), True)
        self.assertIs(self.both(changed(negated, 4, [TOP])), True)
        self.assertIs(self.both(changed(negated, 4, [on_names(TOP, ["v", "x"])])), False)
        least = paper_of(("top", "x"))
        self.assertIs(self.both(changed(least, 4, [on_names(least[4][0], ["w", "x"])])), False)

    def test_what_is_no_paper_at_all(self):
        for value, kinds in POOL.entries:
            self.assertIs(is_paper(value), "paper" in kinds, value)
            for place in range(5):
                for paper in (BELOW, TOP, paper_of(("not", ("top", "x")))):
                    if value != paper[place]:
                        self.assertIs(is_paper(changed(paper, place, value)), False, value)
        for wrong in (list(BELOW), BELOW[:4], BELOW + ([],), (BELOW,), {"paper": BELOW}):
            self.assertIs(is_paper(wrong), False)
        for place in (1, 3, 4):
            self.assertIs(is_paper(changed(BELOW, place, tuple(BELOW[place]))), False)
        self.assertIs(is_paper(changed(BELOW, 2, (2, BELOW[2][1], [0, 1]))), False)
        self.assertIs(is_paper(changed(BELOW, 0, ["below", "x", "y"])), False)
        self.assertIs(is_paper(changed(TOP, 2, (1, [[False, True], [False, True]], [False, True]))), False)
        sums = paper_of(("same", "x", 0))
        self.assertIs(is_paper(sums), True)
        self.assertIs(is_paper(changed(sums, 0, ("sum", [(True, "x")], 0))), False)
        self.assertIs(is_paper(changed(sums, 4, [changed(sums[4][0], 0, ("sum", [(1, "x")], False))])), False)
        for make in (lambda inner: (("not", TOP[0]), ["x"], TOP[2], [("stand", 0)] * 2, [inner, inner]), lambda inner: (inner,) * 5,
                     lambda inner: (("and", TOP[0], TOP[0]), ["x"], TOP[2], TOP[3], [inner, inner])):
            self.assertIs(is_paper(nested(make, BELOW, 24)), False)


class NoTest(unittest.TestCase):

    def test_no_at_any_width(self):
        whole = no_paper(NEVER)
        self.assertIs(is_no(NEVER, whole), True)
        self.assertIs(is_no(NEVER, on_names(whole, ["w", "x"])), True)
        self.assertIs(is_no(NEVER, whole[4][0]), True)
        self.assertIs(is_no(("below", "y", "y"), whole), False)
        self.assertIs(is_no(("not", ("or", ("not", NEVER))), whole), False)
        self.assertIs(is_no(("top", "x"), paper_of(("top", "x"))), False)
        self.assertIs(is_no(("and",), paper_of(("and",))), False)
        for wrong in (changed(whole, 3, [("lot", 1)]), changed(whole, 3, [("stand", 0)]), changed(whole, 4, []), changed(whole, 1, ["x", "x"])):
            self.assertEqual([is_paper(wrong), is_no(NEVER, wrong), is_no_at(1, NEVER, (wrong, [[0], [0]]))], [False] * 3)
        self.assertIs(is_no_at(1, NEVER, (whole, [[0], [0]])), True)
        # No stand at all may be an end, reached or not.
        odd = with_stand(whole[4][0], ("less",), [1, 1], True)
        self.assertEqual([is_paper(odd), is_no(NEVER, odd)], [True, False])

    def test_made_claims(self):
        found = 0
        for claim in made_claims(120, 3):
            paper = paper_of(claim)
            never = not any(paper[2][2])
            self.assertIs(is_no(claim, paper), never)
            self.assertIs(is_no(("not", claim), paper), False)
            found += never
        self.assertGreater(found, 10)

    def test_no_at_a_width(self):
        odd = ("some", "x", ("same", ("times", 2, "x"), 1))
        paper, lots = no_paper_at(3, odd)
        self.assertEqual(len(lots), 4)
        self.assertIs(is_no_at(3, odd, (paper, lots)), True)
        self.assertIs(is_no_at(3, odd, (paper[4][0], lots)), is_no_at(3, odd, (paper[4][0], [[0], [1], [1], [1]])))
        for width in (0, 1, 2, 4, 64):
            self.assertIs(is_no_at(width, odd, (paper, lots)), False)
        self.assertIs(is_no_at(64, odd, no_paper_at(64, odd)), True)
        for wrong in ([paper, lots], (paper,), (paper, lots, lots), (paper, tuple(lots)), (paper, lots[1:]), (paper, lots + lots[-1:]),
                      (paper, [tuple(lot) for lot in lots]), (paper, [[]] + lots[1:]), (paper, lots[:-1] + [[]]), (paper, None),
                      (None, lots), (paper_of(("top", "x")), lots), (paper, [[False]] + lots[1:]), (paper, lots[:-1] + [[99]]),
                      (paper, lots[:-1] + [lots[-1] + [-1]]), (paper, [None] * 4)):
            self.assertIs(is_no_at(3, odd, wrong), False, wrong)
        for value, _ in POOL.entries:
            self.assertIs(is_no_at(3, odd, value), False)
            self.assertIs(is_no(odd, value), False)
            self.assertIs(is_no_at(3, odd, (value, lots)), False)
            self.assertIs(is_no_at(3, odd, (paper, value)), False)
            self.assertIs(is_no_at(1, odd, (paper, [[0], value])), False)

    def test_lists_in_any_order(self):
        claim = ("and", ("top", "x"), ("not", ("top", "x")))
        paper = paper_of(claim)[4][0]
        stands = list(range(len(paper[3])))
        self.assertIs(is_no(claim, paper), True)
        self.assertGreater(len(stands), 1)
        for lots in ([[0], stands], [[0], stands[::-1]], [stands[::-1], stands], [stands[::-1] + stands, stands + [0]]):
            self.assertIs(is_no_at(1, claim, (paper, lots)), True, lots)
        top = paper_of(("top", "x"))
        self.assertIs(is_no_at(0, ("top", "x"), (top, [[0]])), True)
        self.assertIs(is_no_at(0, ("top", "x"), (top, [[0, 1]])), False)
        self.assertIs(is_no_at(1, ("top", "x"), (top, [[0], [0]])), False)
        self.assertIs(is_no_at(1, ("top", "x"), (top, [[1], [0]])), False)
        bit = paper_of(("bit", 2, "x"))
        self.assertEqual(bit[2][1], [[1, 1], [2, 2], [3, 4], [3, 3], [4, 4]])
        self.assertIs(is_no_at(2, ("bit", 2, "x"), (bit, [[0], [1], [2]])), True)
        self.assertIs(is_no_at(2, ("bit", 2, "x"), (bit, [[3, 0], [3, 1], [2, 3]])), True)
        self.assertIs(is_no_at(2, ("bit", 2, "x"), (bit, [[3, 0], [1], [2, 3]])), False)
        self.assertIs(is_no_at(2, ("bit", 2, "x"), (bit, [[4, 0], [4, 1], [2, 4]])), False)

    def test_wrong_claims_and_widths(self):
        for width in (65, -1, True, None, "3"):
            error = raised_by(is_no_at, width, None, None)
            self.assertIs(error.__class__, InvalidWidth)
            self.assertIs(error.value, width)
        for claim in (None, "x", ("sum", [], 0), ("top",)):
            for error in (raised_by(is_no, claim, None), raised_by(is_no_at, 3, claim, None)):
                self.assertIs(error.__class__, InvalidClaim)
                self.assertIs(error.value, claim)

    def test_papers_of_the_very_piece(self):
        claim = ("same", ("plus", "x", "x"), 0)
        paper = paper_of(claim)
        self.assertEqual(paper[0], piece_of(claim))
        self.assertIs(is_no(claim, changed(paper, 0, ("sum", [(2, "x")], False))), False)
        self.assertIs(is_no_at(1, claim, (paper, [[0], [0]])), False)


if __name__ == "__main__":
    unittest.main()
