"""Promises 52 to 54: papers of claims, and papers put together."""

import unittest

from howeverwide.building import table_of
from howeverwide.errors import InvalidClaim, InvalidName, InvalidPaper, InvalidWidth, TooMany
from howeverwide.judge import is_no, is_no_at, is_paper
from howeverwide.papers import no_paper, no_paper_at, paper_and, paper_least, paper_not, paper_of, paper_or, paper_some
from howeverwide.papers import papers_in, stands_in
from howeverwide.pieces import free_in_piece, piece_of
from howeverwide.tables import alike_stands, is_least, least, reached, rows_to
from howeverwide.words import free_names
from tests.plain_pieces import inner_pieces, is_plainly_right, plain_piece_holds
from tests.support import POOL, Maker, fillings, have_new_lists, kept, plain_letters, plainly_holds, plainly_takes, raised_by
from tests.test_building import counted, ring
from tests.test_judge import BELOW, TOP, changed, made_claims, on_names, with_stand

ODD = ("some", "x", ("same", ("times", 2, "x"), 1))


def all_papers(paper):
    return [paper] + [inner for part in paper[4] for inner in all_papers(part)]


def are_numbered(table):
    """Tell whether all stands are reached, and numbered in the order of their first rows."""
    return [stand for stand, _ in reached(table)] == list(range(len(table[1])))


def letters_on(names):
    """A right paper on these names, of the "and" of tops."""
    return paper_and([on_names((("top", name), [name], TOP[2], TOP[3], []), [name]) for name in names])


class PapersOfClaimsTest(unittest.TestCase):

    def test_form(self):
        for claim in made_claims(80, 3):
            before = kept(claim)
            paper = paper_of(claim)
            self.assertEqual([claim, paper[0], paper[1], paper[2]], [before, piece_of(claim), free_names(claim), table_of(claim)])
            self.assertTrue(have_new_lists([paper, paper_of(claim)], claim))
            self.look_at(paper)

    def look_at(self, paper):
        """Each paper is a least one around one whose stands are numbered, whose parts are such papers on the free names."""
        piece, names, table, labels, parts = paper
        self.assertEqual([len(parts), parts[0][0], parts[0][1], is_least(table)], [1, piece, names, True])
        inner = parts[0]
        self.assertEqual(table, least(inner[2]))
        self.assertIs(are_numbered(inner[2]), True)
        self.assertEqual(sorted(("lot", *lot) for lot in alike_stands(inner[2])), sorted(labels))
        self.assertEqual([part[0] for part in inner[4]], inner_pieces(piece))
        for part in inner[4]:
            self.assertEqual(part[1], free_in_piece(part[0]))
            self.look_at(part)

    def test_on_names_that_the_piece_has_not(self):
        paper = paper_of(("same", "x", "x"))
        self.assertEqual(paper, (("sum", [], 0), ["x"], (1, [[0, 0]], [True]), [("lot", 0)],
                                 [(("sum", [], 0), ["x"], (1, [[0, 0]], [True]), [("carry", 0)], [])]))
        paper = paper_of(("and", ("same", "x", "x"), ("top", "y")))
        self.assertEqual([part[1] for part in paper[4][0][4]], [[], ["y"]])
        self.assertEqual([paper[1], paper[4][0][1]], [["x", "y"], ["x", "y"]])
        self.assertIs(is_paper(paper), True)

    def test_each_kind(self):
        below = paper_of(("below", "x", "y"))
        self.assertEqual(below, (*BELOW[:3], [("lot", 0), ("lot", 1)], [BELOW]))
        above = paper_of(("some", "x", ("below", "x", "y")))
        self.assertEqual(above[4][0], (("some", "x", BELOW[0]), ["y"], (1, [[0, 1], [1, 1]], [False, True]),
                                       [("lot", 0), ("lot", 0, 1)], [below]))
        top = paper_of(("top", "x"))
        self.assertEqual(paper_of(("and",)), (("and",), [], (0, [[0]], [True]), [("lot", 0)],
                                              [(("and",), [], (0, [[0]], [True]), [("stands",)], [])]))
        self.assertEqual(paper_of(("or",))[4][0], (("or",), [], (0, [[0]], [False]), [("stands",)], []))
        self.assertEqual(paper_of(("not", ("top", "x")))[4][0],
                         (("not", ("top", "x")), ["x"], (1, [[0, 1], [0, 1]], [True, False]), [("stand", 0), ("stand", 1)], [top]))
        both = paper_of(("iff", ("top", "x"), ("below", "x", "y")))[4][0]
        self.assertEqual(both[2:4], ((2, [[0, 1, 2, 1], [0, 1, 2, 1], [2, 1, 2, 3], [2, 1, 2, 3]], [True, False, False, True]),
                                     [("stands", 0, 0), ("stands", 1, 0), ("stands", 0, 1), ("stands", 1, 1)]))

    def test_no_paper(self):
        for claim in made_claims(80, 3):
            paper, told = paper_of(claim), no_paper(claim)
            self.assertEqual(told, None if True in paper[2][2] else paper)
            if told is not None:
                self.assertIs(is_no(claim, told), True)
        self.assertIsNone(no_paper(ODD))
        self.assertIsNone(no_paper(("bit", 8, "x")))
        self.assertIsNotNone(no_paper(("below", "x", "x")))
        self.assertEqual(no_paper(("or",)), paper_of(("or",)))

    def test_no_paper_at(self):
        found = {True: 0, False: 0}
        for claim in made_claims(70, 2):
            names = free_names(claim)
            for width in range(3):
                told = no_paper_at(width, claim)
                met = any(plainly_holds(width, claim, dict(filling)) for filling in fillings(names, width))
                self.assertIs(told is None, met, (claim, width))
                found[met] += 1
                if told is not None:
                    self.assertIs(is_no_at(width, claim, told), True)
                    paper, lots = told
                    self.assertEqual(paper, paper_of(claim))
                    self.assertEqual(lots, plain_lots(paper[2], width))
                    self.assertTrue(have_new_lists([told, no_paper_at(width, claim)], claim))
        self.assertGreater(min(found.values()), 40)

    def test_no_paper_at_the_widths_0_and_64(self):
        self.assertIsNone(no_paper_at(0, ODD))
        paper, lots = no_paper_at(64, ODD)
        self.assertEqual(len(lots), 65)
        self.assertIs(is_no_at(64, ODD, (paper, lots)), True)
        self.assertEqual(no_paper_at(0, ("top", "x")), (paper_of(("top", "x")), [[0]]))
        self.assertIsNone(no_paper_at(1, ("top", "x")))
        self.assertEqual(no_paper_at(64, ("not", ("and",)))[1], [[0]] * 65)
        turns = ("and", ("told", (0, [[1], [2], [0]], [False, False, True]), []))
        self.assertEqual(no_paper_at(4, turns)[1], [[0], [1], [2], [0], [1]])
        self.assertIsNone(no_paper_at(5, turns))

    def test_wrong_claims_and_widths(self):
        for width in (65, -1, True, None):
            error = raised_by(no_paper_at, width, None)
            self.assertIs(error.__class__, InvalidWidth)
            self.assertIs(error.value, width)
        for claim in (None, ("top", 1, 1), ("sum", [], 0)):
            for error in (raised_by(no_paper_at, 64, claim), raised_by(no_paper, claim), raised_by(paper_of, claim)):
                self.assertIs(error.__class__, InvalidClaim)
                self.assertIs(error.value, claim)

    def test_too_many(self):
        for claim in (("or", ring(23, 1), ring(87, 1)), ("some", "y", counted(11)), ("not", ("some", "y", counted(11))),
                      ("same", ("times", 100, ("times", 99, "x")), "y")):
            for function, others in ((paper_of, []), (no_paper, []), (no_paper_at, [3])):
                error = raised_by(function, *others, claim)
                self.assertIs(error.__class__, TooMany)
                self.assertEqual(error.value, 2001)
            self.assertIs(raised_by(no_paper_at, 65, claim).__class__, InvalidWidth)
        paper = paper_of(("or", ring(16, 1), ring(125, 1)))
        self.assertEqual(len(paper[3]), 2000)
        self.assertIs(is_paper(paper), True)

    def test_on_six_names(self):
        whole = ("plus", ("plus", "a", "b"), ("minus", ("minus", "c", "d"), ("plus", ("times", 7, "e"), ("times", 9, "f"))))
        paper = paper_of(("same", whole, 3))
        self.assertEqual(paper[1], ["a", "b", "c", "d", "e", "f"])
        self.assertIs(is_paper(paper), True)


def plain_lots(table, width):
    """The ascending lists of the stands behind rows of 0, 1, .. letters."""
    lots = [[0]]
    for _ in range(width):
        lots.append(sorted({behind for stand in lots[-1] for behind in table[1][stand]}))
    return lots


class PutTogetherTest(unittest.TestCase):

    def check(self, made, piece, names, parts):
        self.assertEqual([made[0], made[1], made[4]], [piece, names, parts])
        self.assertIs(is_plainly_right(made), True)
        self.assertIs(is_paper(made), True)
        self.assertIs(are_numbered(made[2]), True)

    def test_made_papers(self):
        known = [paper for claim in made_claims(60, 2) for paper in all_papers(paper_of(claim)) if len(paper[3]) < 9]
        for seed in range(60):
            random = Maker(seed).random
            papers = random.sample(known, random.randint(1, 3))
            before = kept(papers)
            names = sorted({name for paper in papers for name in paper[1]})
            if len(names) > 6:
                continue
            for word, function in (("and", paper_and), ("or", paper_or)):
                made = function(papers)
                self.check(made, (word, *[paper[0] for paper in papers]), names, papers)
                self.assertTrue(have_new_lists([made, function(papers)], papers))
            first = papers[0]
            made = paper_not(first)
            self.check(made, ("not", first[0]), first[1], [first])
            self.assertTrue(have_new_lists([made, paper_not(first)], papers))
            for name in first[1]:
                made = paper_some(first, name)
                self.check(made, ("some", name, first[0]), [other for other in first[1] if other != name], [first])
                self.assertTrue(have_new_lists([made, paper_some(first, name)], papers))
            self.look_at_least(first)
            self.assertEqual(papers, before)

    def look_at_least(self, paper):
        made = paper_least(paper)
        self.assertEqual([made[0], made[1], made[4], made[2]], [paper[0], paper[1], [paper], least(paper[2])])
        self.assertEqual([is_plainly_right(made), is_paper(made)], [True, True])
        self.assertEqual(sorted(stand for label in made[3] for stand in label[1:]), sorted(stand for stand, _ in reached(paper[2])))
        self.assertTrue(have_new_lists([made, paper_least(paper)], paper))

    def test_least_ones(self):
        for claim in made_claims(15, 2):
            for paper in all_papers(paper_of(claim)):
                if len(paper[3]) < 30:
                    self.look_at_least(paper)
        # Stands that no row reaches stand in no label; numbers go by the first rows.
        told = ("told", (1, [[2, 1], [1, 2], [2, 1], [3, 0]], [True, False, True, True]), ["x"])
        paper = (told, ["x"], told[1], [("stand", stand) for stand in range(4)], [])
        self.assertIs(is_paper(paper), True)
        made = paper_least(paper)
        self.assertEqual(made[2:4], ((1, [[0, 1], [1, 0]], [True, False]), [("lot", 0, 2), ("lot", 1)]))
        self.look_at_least(paper)
        twice = with_stand(BELOW, ("less",), [1, 0, 1, 2], True)
        self.assertEqual(paper_least(twice)[3], [("lot", 0), ("lot", 1)])
        self.assertEqual(paper_least(paper_least(twice))[3], [("lot", 0), ("lot", 1)])
        self.look_at_least(paper_least(twice))

    def test_names_of_papers(self):
        wide = on_names(TOP, ["w", "x", "z"])
        self.assertEqual(paper_not(wide)[1], ["w", "x", "z"])
        self.assertEqual(paper_some(wide, "w")[1], ["x", "z"])
        self.assertEqual(paper_some(wide, "w")[2], (2, [[0, 1, 0, 1], [0, 1, 0, 1]], [False, True]))
        self.assertEqual(paper_some(wide, "x")[1], ["w", "z"])
        self.assertEqual(paper_or([BELOW, wide])[1], ["w", "x", "y", "z"])
        self.assertEqual(paper_and([TOP, TOP])[1:4], (["x"], (1, [[0, 1], [0, 1]], [False, True]), [("stands", 0, 0), ("stands", 1, 1)]))
        self.assertEqual(paper_some(paper_some(BELOW, "x"), "y")[1], [])

    def test_six_names_and_seven(self):
        six = letters_on("abcdef")
        self.assertEqual([six[1], is_paper(six), len(six[3])], [list("abcdef"), True, 64])
        seven = [letters_on("abcd"), letters_on("efg")]
        self.assertEqual(paper_or([seven[0], letters_on("bdef")])[1], list("abcdef"))
        for function in (paper_and, paper_or):
            error = raised_by(function, seven)
            self.assertIs(error.__class__, InvalidPaper)
            self.assertIs(error.value, seven)

    def test_what_is_no_right_paper(self):
        wrong = changed(TOP, 3, [("nought",), ("nought",)])
        for value in [wrong, list(TOP), None, (), [TOP], TOP[:4], changed(BELOW, 4, [wrong])] + POOL.wrong("paper"):
            for function in (paper_not, paper_least, papers_in, stands_in):
                error = raised_by(function, value)
                self.assertIs(error.__class__, InvalidPaper)
                self.assertIs(error.value, value)
            error = raised_by(paper_some, value, "all")
            self.assertIs(error.__class__, InvalidPaper)
            self.assertIs(error.value, value)
            for papers in ([value], [TOP, value], (TOP,), TOP, [], value):
                for function in (paper_and, paper_or):
                    error = raised_by(function, papers)
                    if papers is value and isinstance(value, list) and value and all(is_paper(one) for one in value):
                        self.assertIsNone(error)
                        continue
                    self.assertIs(error.__class__, InvalidPaper)
                    self.assertIs(error.value, papers)

    def test_wrong_names(self):
        for name in ("y", "X", "all", "", None, 0, ["x"], ("x",), True):
            error = raised_by(paper_some, TOP, name)
            self.assertIs(error.__class__, InvalidName)
            self.assertIs(error.value, name)
        self.assertIsNone(raised_by(paper_some, on_names(TOP, ["w", "x"]), "w"))

    def test_too_many_stands(self):
        def paper_of_ring(stands):
            return paper_of(ring(stands, 1))[4][0]

        for function in (paper_and, paper_or):
            self.assertEqual(len(function([paper_of_ring(16), paper_of_ring(125)])[3]), 2000)
            error = raised_by(function, [paper_of_ring(23), paper_of_ring(87)])
            self.assertEqual([error.__class__, error.value], [TooMany, 2001])
        far = paper_of(counted(11))
        self.assertEqual(len(paper_some(paper_of(counted(10)), "y")[3]), 1024)
        error = raised_by(paper_some, far, "y")
        self.assertEqual([error.__class__, error.value], [TooMany, 2001])
        self.assertIs(raised_by(paper_some, far, "z").__class__, InvalidName)
        long = ("told", (1, [[min(stand + 1, 2000), 0] for stand in range(2001)], [stand == 2000 for stand in range(2001)]), ["x"])
        paper = (long, ["x"], long[1], [("stand", stand) for stand in range(2001)], [])
        self.assertIs(is_paper(paper), True)
        error = raised_by(paper_not, paper)
        self.assertEqual([error.__class__, error.value], [TooMany, 2001])
        shorter = ("told", (1, [[min(stand + 1, 1999), 0] for stand in range(2000)], [stand == 9 for stand in range(2000)]), ["x"])
        paper = (shorter, ["x"], shorter[1], [("stand", stand) for stand in range(2000)], [])
        self.assertEqual(len(paper_not(paper)[3]), 2000)

    def test_papers_put_together_hold_what_they_say(self):
        made = paper_some(paper_and([BELOW, paper_not(TOP)]), "x")
        for width in range(4):
            for filling in fillings(["y"], width):
                row = plain_letters(width, [word for _, word in filling])
                self.assertIs(plainly_takes(made[2], row), plain_piece_holds(width, made[0], dict(filling)))
        self.assertEqual(rows_to(made[2], 1), [[1]])


class PapersInTest(unittest.TestCase):

    def test_papers_in_and_stands_in(self):
        for claim in made_claims(60, 3):
            paper = paper_of(claim)
            told = papers_in(paper)
            self.assertEqual(told, all_papers(paper))
            self.assertEqual(stands_in(paper), sum(len(one[3]) for one in all_papers(paper)))
            if len(told) < 40:
                self.assertTrue(have_new_lists([told, papers_in(paper)], paper))
        self.assertEqual(papers_in(TOP), [TOP])
        self.assertEqual([one[0][0] for one in papers_in(paper_and([paper_not(TOP), BELOW]))], ["and", "not", "top", "below"])
        self.assertEqual([stands_in(TOP), stands_in(paper_not(TOP)), stands_in(paper_least(TOP))], [2, 4, 4])


if __name__ == "__main__":
    unittest.main()
