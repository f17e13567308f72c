"""Promises 38 to 41: lots reached, the widths at which something can be, and their papers."""

import unittest

from howeverwide.building import table_of
from howeverwide.errors import InvalidClaim, InvalidTable, TooMany
from howeverwide.papers import paper_of
from howeverwide.reach import full_widths, is_widths_paper, lots_reached, met_from, met_widths, sure_from, sure_widths, taken_widths
from howeverwide.reach import widths_paper
from howeverwide.widths import has_width
from howeverwide.words import free_names
from tests.support import POOL, Maker, all_rows, fillings, have_new_lists, kept, plainly_holds, plainly_takes, raised_by
from tests.test_building import NAMES, counted, ring
from tests.test_judge import changed, made_claims, on_names
from tests.test_papers import plain_lots
from tests.test_widths import ALL, NONE, is_plain

STEPS = ("and", ("same", ("unlike", "x", ("up", 1, "x")), -1), ("top", "x"))


def branches(sizes, many):
    """A table whose first letter tells into which ring to go: its lots come back only when all rings are around at once."""
    starts = [1 + sum(sizes[:number]) for number in range(len(sizes))]
    steps = [[starts[letter % len(sizes)] for letter in range(2 ** many)]]
    for start, size in zip(starts, sizes):
        steps += [[start + (place + 1) % size] * 2 ** many for place in range(size)]
    return (many, steps, [False] + [place == 0 for size in sizes for place in range(size)])


class LotsTest(unittest.TestCase):

    def test_against_all_rows(self):
        for seed in range(300):
            maker = Maker(seed)
            table = maker.table(maker.random.randint(0, 2), maker.random.randint(1, 6))
            before = kept(table)
            ahead, turn = lots_reached(table)
            self.assertTrue(have_new_lists([(ahead, turn), lots_reached(table)], table))
            self.assertEqual(table, before)
            lots = ahead + turn
            self.assertGreater(len(turn), 0)
            self.assertEqual(len({tuple(lot) for lot in lots}), len(lots))
            wanted = plain_lots(table, 40)
            self.assertEqual((ahead + turn * 41)[:41], wanted)
            taken, full = taken_widths(table), full_widths(table)
            self.assertEqual([is_plain(taken), is_plain(full)], [True, True])
            for width, lot in enumerate(wanted):
                self.assertIs(has_width(taken, width), any(table[2][stand] for stand in lot))
                self.assertIs(has_width(full, width), all(table[2][stand] for stand in lot))
            for width in range(4):
                told = [plainly_takes(table, row) for row in all_rows(table[0], width)]
                self.assertEqual([has_width(taken, width), has_width(full, width)], [any(told), all(told)])

    def test_lots_that_come_back_at_once(self):
        self.assertEqual(lots_reached((1, [[0, 0]], [True])), ([], [[0]]))
        self.assertEqual(lots_reached((1, [[0, 0], [1, 0]], [True, False])), ([], [[0]]))
        self.assertEqual(lots_reached((1, [[0, 1], [1, 0]], [True, False])), ([[0]], [[0, 1]]))
        self.assertEqual([taken_widths((0, [[0]], [False])), full_widths((0, [[0]], [False]))], [NONE, NONE])
        self.assertEqual([taken_widths((6, [[0] * 64], [True])), full_widths((6, [[0] * 64], [True]))], [ALL, ALL])

    def test_lots_that_come_back_late(self):
        line = (0, [[stand + 1] for stand in range(199)] + [[0]], [stand == 7 for stand in range(200)])
        self.assertEqual(lots_reached(line), ([], [[stand] for stand in range(200)]))
        self.assertEqual(taken_widths(line), ([], line[2]))
        tail = (0, [[stand + 1] for stand in range(199)] + [[199]], [stand == 198 for stand in range(200)])
        self.assertEqual(lots_reached(tail), ([[stand] for stand in range(199)], [[199]]))
        self.assertEqual(taken_widths(tail), ([False] * 198 + [True], [False]))
        ahead, turn = lots_reached(branches([3, 4, 5, 7], 2))
        self.assertEqual([len(ahead), len(turn)], [1, 420])
        self.assertEqual(full_widths(branches([3, 4, 5, 7], 2)), full_by_hand([3, 4, 5, 7]))

    def test_with_200_stands(self):
        table = Maker(8).table(6, 200)
        ahead, turn = lots_reached(table)
        self.assertEqual((ahead + turn * 8)[:8], plain_lots(table, 7))

    def test_too_many_lots(self):
        # 1 + 1,999 lots are just as many as are allowed; with two branches 1 + 45 * 46 = 2,071 are too many.
        self.assertEqual(len(lots_reached(branches([27, 37, 2], 2))[1]), 1998)
        for table in (branches([45, 46], 1), branches([50, 51, 53], 2), branches([29, 69], 1)):
            for function in (lots_reached, taken_widths, full_widths):
                error = raised_by(function, table)
                self.assertEqual([error.__class__, error.value], [TooMany, 2001])
        late = (0, [[stand + 1] for stand in range(1999)] + [[1999]], [False] * 2000)
        self.assertEqual([len(lots) for lots in lots_reached(late)], [1999, 1])
        later = (0, [[stand + 1] for stand in range(2000)] + [[2000]], [False] * 2001)
        self.assertEqual(raised_by(lots_reached, later).__class__, TooMany)

    def test_wrong_tables(self):
        for table in (None, (1, [[0, 2]], [True]), [1, [[0, 0]], [True]], (7, [[0] * 128], [True])):
            for function in (lots_reached, taken_widths, full_widths):
                error = raised_by(function, table)
                self.assertIs(error.__class__, InvalidTable)
                self.assertIs(error.value, table)


def full_by_hand(sizes):
    """The widths at which rings of these sizes, behind one letter, are all at their first stand."""
    many = 1
    for size in sizes:
        many *= size
    return ([], [False, True] + [False] * (many - 2))


class WidthsOfClaimsTest(unittest.TestCase):

    def test_against_holding(self):
        for claim in made_claims(110, 2):
            names = free_names(claim)
            met, sure = met_widths(claim), sure_widths(claim)
            self.assertEqual([is_plain(met), is_plain(sure)], [True, True])
            for width in range(4):
                told = [plainly_holds(width, claim, dict(filling)) for filling in fillings(names, width)]
                self.assertEqual([has_width(met, width), has_width(sure, width)], [any(told), all(told)], (claim, width))
            table = table_of(claim)
            for width, lot in enumerate(plain_lots(table, 60)):
                ends = [table[2][stand] for stand in lot]
                self.assertEqual([has_width(met, width), has_width(sure, width)], [any(ends), all(ends)])
            if not names:
                self.assertEqual(met, sure)
            self.assertEqual(met_widths(("and", claim, ("same", "z", "z"))), met)
            self.assertEqual(sure_widths(("and", claim, ("same", "z", "z"))), sure)
            self.look_from(met, met_from(claim))
            self.look_from(sure, sure_from(claim))

    def look_from(self, widths, told):
        if told is None:
            self.assertIn(False, widths[1])
        else:
            self.assertTrue(all(has_width(widths, width) for width in range(told, 300)))
            self.assertFalse(told > 0 and has_width(widths, told - 1))

    def test_sure_ones_are_those_at_which_the_other_cannot_be_met(self):
        for claim in made_claims(60, 2):
            met, sure = met_widths(("not", claim)), sure_widths(claim)
            for width in range(100):
                self.assertIs(has_width(sure, width), not has_width(met, width))

    def test_edges(self):
        self.assertEqual([met_widths(("and",)), met_widths(("or",)), sure_widths(("and",)), sure_widths(("or",))], [ALL, NONE, ALL, NONE])
        self.assertEqual([met_from(("and",)), met_from(("or",)), sure_from(("and",)), sure_from(("or",))], [0, None, 0, None])
        self.assertEqual([met_from(STEPS), sure_from(STEPS)], [None, None])
        eight = ("same", 256, 0)
        self.assertEqual([met_widths(eight), sure_widths(eight)], [([True] * 9, [False])] * 2)
        self.assertEqual([met_from(eight), met_from(("not", eight)), sure_from(("not", eight))], [None, 9, 9])
        self.assertEqual(sure_from(("below", "x", 8)), None)
        self.assertEqual([met_widths(ring(6, 0, 2)), sure_widths(ring(6, 2, 2))], [([], [False, False, True, False, False, False])] * 2)
        self.assertEqual(met_from(ring(6, 0, 2)), None)

    def test_wrong_claims(self):
        for function in (met_widths, sure_widths, met_from, sure_from, widths_paper):
            for claim in (None, "x", ("sum", [], 0), ("top", 1, 1)):
                error = raised_by(function, claim)
                self.assertIs(error.__class__, InvalidClaim)
                self.assertIs(error.value, claim)
            for claim in (("or", ring(23, 1), ring(87, 1)), ("some", "y", counted(11)), ("told", branches([45, 46], 1), ["x"])):
                error = raised_by(function, claim)
                self.assertEqual([error.__class__, error.value], [TooMany, 2001])


class WidthsPapersTest(unittest.TestCase):

    def test_papers_of_claims(self):
        for claim in made_claims(60, 2):
            before = kept(claim)
            told = widths_paper(claim)
            paper = paper_of(claim)
            self.assertEqual(told, (paper, lots_reached(paper[2])))
            self.assertIs(is_widths_paper(claim, told), True)
            self.assertEqual(claim, before)
            self.assertTrue(have_new_lists([told, widths_paper(claim)], claim))
            self.assertIs(is_widths_paper(claim, (paper, (told[1][0] + told[1][1], told[1][1]))), True)
            self.assertIs(is_widths_paper(claim, (paper, (told[1][0], told[1][1] * 3))), True)
            self.assertIs(is_widths_paper(claim, (paper[4][0], lots_reached(paper[4][0][2]))), True)
            self.assertIs(is_widths_paper(claim, (paper, (told[1][0], told[1][1] + told[1][1][:1]))), len(told[1][1]) == 1)

    def test_lists_that_come_round_more_than_once(self):
        claim = ring(3, 0, 1)
        paper = paper_of(claim)
        for ahead, turn, right in (([], [[0], [1], [2]], True), ([], [[0], [1], [2]] * 2, True), ([[0]], [[1], [2], [0]], True),
                                   ([[0], [1], [2], [0]], [[1], [2], [0]], True), ([[0], [1], [2]] * 5, [[0], [1], [2]] * 4, True),
                                   ([[0]], [[1], [2]], False), ([[0], [1]], [[0], [1], [2]], False), ([], [[1], [2], [0]], False),
                                   ([[0], [1], [2]], [], False), ([], [], False), ([], [[0], [1]], False), ([], [[0], [1], [2], [0]], False),
                                   ([[0]], [[0], [1], [2]], False), ([], [[0], [2], [1]], False), ([], [[0], [1, 2], [2]], False),
                                   ([], [[0, 0], [1], [2]], False), ([[]], [[0], [1], [2]], False), ([], [[False], [1], [2]], False),
                                   ([], [[0], [True], [2]], False), ([], [(0,), (1,), (2,)], False), ([], [[0], [1], [2, 3]], False),
                                   ([], [[0], [1], [-1]], False), ([], [[0], [1], None], False), ([[0]], [None], False)):
            self.assertIs(is_widths_paper(claim, (paper, (ahead, turn))), right, (ahead, turn))
        for lots in ([[], [[0], [1], [2]]], ([], ([0], [1], [2])), ((), [[0], [1], [2]]), ([], [[0], [1], [2]], []), None, ([[0], [1], [2]],)):
            self.assertIs(is_widths_paper(claim, (paper, lots)), False)

    def test_lots_of_several_stands(self):
        claim = ("top", "x")
        paper = paper_of(claim)
        self.assertIs(is_widths_paper(claim, (paper, ([[0]], [[0, 1]]))), True)
        self.assertIs(is_widths_paper(claim, (paper, ([[0], [0, 1], [0, 1]], [[0, 1], [0, 1]]))), True)
        for lots in (([[0]], [[1, 0]]), ([], [[0]]), ([], [[0, 1]]), ([[0, 1]], [[0, 1]]), ([[0]], [[0]]), ([[0]], [[1]]), ([[0], [0]], [[0, 1]])):
            self.assertIs(is_widths_paper(claim, (paper, lots)), False, lots)

    def test_papers_of_other_pieces_and_names(self):
        told = widths_paper(("top", "x"))
        self.assertIs(is_widths_paper(("top", "y"), told), False)
        self.assertIs(is_widths_paper(("and", ("top", "x")), told), False)
        self.assertIs(is_widths_paper(("top", "x"), (on_names(told[0], ["w", "x"]), told[1])), True)
        self.assertIs(is_widths_paper(("top", "x"), (on_names(told[0], NAMES + ["x"]), told[1])), False)
        self.assertIs(is_widths_paper(("top", "x"), (changed(told[0], 3, [("lot", 0), ("lot", 0)]), told[1])), False)

    def test_any_value(self):
        told = widths_paper(("top", "x"))
        for value, kinds in POOL.entries:
            self.assertIs(is_widths_paper(("top", "x"), value), False)
            self.assertIs(is_widths_paper(("top", "x"), (value, told[1])), value == told[0][4][0])
            self.assertIs(is_widths_paper(("top", "x"), (told[0], value)), False)
            self.assertIs(is_widths_paper(("top", "x"), (told[0], (value, [[0, 1]]))), False)
            self.assertIs(is_widths_paper(("top", "x"), (told[0], ([value], [[0, 1]]))), False if value != [0] else True)
            self.assertIs(is_widths_paper(("top", "x"), (told[0], ([[0]], value))), False)
            if "claim" not in kinds:
                error = raised_by(is_widths_paper, value, told)
                self.assertIs(error.__class__, InvalidClaim)
                self.assertIs(error.value, value)
        for wrong in (list(told), told + told, told[:1], (told[1], told[0])):
            self.assertIs(is_widths_paper(("top", "x"), wrong), False)


if __name__ == "__main__":
    unittest.main()
