"""Promises 55 to 59: lots of claims."""

import itertools
import unittest

from howeverwide.alike import follows
from howeverwide.building import table_of
from howeverwide.cores import can_meet, clash_widths, crossing, ever_met, following_widths, greatest_met, idle_claims, least_bases
from howeverwide.cores import least_clashes, lot_widths, mends, never_met
from howeverwide.errors import InvalidClaim, InvalidClaims, InvalidNumber, InvalidWidth
from howeverwide.reach import met_widths, sure_widths
from howeverwide.widths import has_width
from howeverwide.words import free_names
from tests.support import POOL, Maker, fillings, have_new_lists, kept, plainly_holds, raised_by
from tests.test_building import ring
from tests.test_widths import ALL, NONE, is_plain

FAR = 10 ** 30 - 1
CLAIMS = [("below", "x", 2), ("bit", 0, "x"), ("same", "x", ("plus", "y", "y")), ("same", "x", 1)]


def all_lots(many):
    """All lots of numbers below one, shorter ones first."""
    return [list(lot) for size in range(many + 1) for lot in itertools.combinations(range(many), size)]


def names_of(claims):
    return sorted({name for claim in claims for name in free_names(claim)})


def met_lots(claims, width):
    """For each filling at a width, the numbers of the claims that it meets."""
    lots = set()
    for filling in fillings(names_of(claims), width):
        words = dict(filling)
        lots.add(frozenset(number for number, claim in enumerate(claims)
                           if plainly_holds(width, claim, {name: words[name] for name in free_names(claim)})))
    return lots


def is_met(lots, lot):
    return any(set(lot) <= met for met in lots)


def least_ones(many, rule):
    """All lots, in order, of which a rule says so, and of none within them."""
    told = [lot for lot in all_lots(many) if rule(lot)]
    return sorted(lot for lot in told if not any(set(other) < set(lot) for other in told))


def greatest_ones(many, rule):
    told = [lot for lot in all_lots(many) if rule(lot)]
    return sorted(lot for lot in told if not any(set(other) > set(lot) for other in told))


def others(many, lot):
    return [number for number in range(many) if number not in lot]


def made_lists(seeds, names=("x", "y"), most=4, deep=1):
    """Lists of claims each of which has a table."""
    for seed in seeds:
        maker = Maker(seed, names)
        claims = [maker.claim(deep, 1) for _ in range(maker.random.randint(0, most))]
        yield [claim for claim in claims if raised_by(table_of, claim) is None]


class LotsTest(unittest.TestCase):

    def test_against_all_fillings_of_small_widths(self):
        clashing = 0
        for claims in made_lists(range(45)):
            before = kept(claims)
            many = len(claims)
            for width in range(4):
                lots = met_lots(claims, width)
                for lot in all_lots(many)[width::4]:
                    self.assertIs(can_meet(claims, lot, width), is_met(lots, lot))
                self.look_at_lists(claims, width, lots)
                clashing += not is_met(lots, range(many))
            self.assertEqual(claims, before)
        self.assertGreater(clashing, 30)

    def look_at_lists(self, claims, width, lots):
        many = len(claims)
        clashes, greatest, mended = least_clashes(claims, width), greatest_met(claims, width), mends(claims, width)
        self.assertEqual(clashes, least_ones(many, lambda lot: not is_met(lots, lot)))
        self.assertEqual(greatest, greatest_ones(many, lambda lot: is_met(lots, lot)))
        self.assertEqual(mended, least_ones(many, lambda lot: is_met(lots, others(many, lot))))
        self.assertEqual(mended, sorted(others(many, lot) for lot in greatest))
        self.assertEqual([crossing(many, mended), crossing(many, clashes)], [clashes, mended])
        self.assertTrue(have_new_lists([clashes, greatest, mended], claims))

    def test_widths_of_lots(self):
        for claims in made_lists(range(100, 120), most=3):
            clashes = [least_clashes(claims, width) for width in range(9)]
            for lot in all_lots(len(claims)):
                met = lot_widths(claims, lot)
                self.assertEqual(met, met_widths(("and", *[claims[number] for number in lot])))
                clashing = clash_widths(claims, lot)
                self.assertEqual([is_plain(met), is_plain(clashing)], [True, True])
                self.assertTrue(have_new_lists([met, clashing], claims))
                self.assertEqual([has_width(clashing, width) for width in range(9)], [lot in told for told in clashes])
                for width in (0, 5, FAR, FAR - 1):
                    self.assertIs(can_meet(claims, lot, width), has_width(met, width))

    def test_three_and_four_names(self):
        for claims in made_lists(range(200, 215), ("x", "y", "z"), 3):
            for width in range(3):
                self.look_at_lists(claims, width, met_lots(claims, width))
        claims = [("same", ("plus", "a", "b"), "c"), ("below", "c", "a"), ("below", "c", "d"), ("same", "d", 0), ("bit", 0, "b")]
        for width in range(3):
            self.look_at_lists(claims, width, met_lots(claims, width))

    def test_six_claims_at_far_widths(self):
        claims = [("same", ("plus", "x", "y"), "z"), ("below", "z", "x"), ("below", "x", "z"), ("bit", 3, "y"), ("same", "y", 0), ("top", "x")]
        for width in range(3):
            self.look_at_lists(claims, width, met_lots(claims, width))
        for width in (300, 2000, FAR):
            self.assertEqual(least_clashes(claims, width), [[0, 1, 4], [0, 2, 4], [1, 2], [3, 4]])
            self.assertEqual(mends(claims, width), [[0, 1, 3], [0, 2, 3], [1, 2, 3], [1, 4], [2, 4]])
            self.assertEqual(crossing(6, mends(claims, width)), least_clashes(claims, width))
        self.assertEqual(least_clashes(claims, 3), [[0, 1, 4], [0, 2, 4], [1, 2], [3]])
        self.assertEqual(clash_widths(claims, [3]), ([True] * 4, [False]))
        self.assertEqual(clash_widths(claims, [3, 4]), ([False] * 4, [True]))

    def test_the_edges(self):
        for width in (0, 5, 300, FAR):
            self.assertEqual([least_clashes([], width), greatest_met([], width), mends([], width)], [[], [[]], [[]]])
            self.assertIs(can_meet([], [], width), True)
            self.assertIs(can_meet([("or",)], [], width), True)
            self.assertEqual([least_clashes([("or",)], width), greatest_met([("or",)], width), mends([("or",)], width)], [[[0]], [[]], [[0]]])
            self.assertEqual([least_clashes([("and",)] * 3, width), greatest_met([("and",)] * 3, width)], [[], [[0, 1, 2]]])
        self.assertEqual([lot_widths([], []), clash_widths([], [])], [ALL, NONE])
        self.assertEqual([lot_widths([("or",)], []), clash_widths([("or",)], []), clash_widths([("or",)], [0])], [ALL, NONE, ALL])
        self.assertEqual([never_met([]), ever_met([]), idle_claims([]), least_bases([])], [[], [[]], [], [[]]])
        self.assertEqual([clash_widths([("or",)] * 2, [0, 1]), least_clashes([("or",)] * 2, 3)], [NONE, [[0], [1]]])

    def test_claims_met_at_no_common_width(self):
        claims = [ring(2, 0, 0), ring(2, 0, 1), ring(3, 0, 2)]
        self.assertEqual(never_met(claims), [[0, 1]])
        self.assertEqual(ever_met(claims), [[0, 2], [1, 2]])
        self.assertEqual(clash_widths(claims, [0, 1]), NONE)
        self.assertEqual([least_clashes(claims, 4), least_clashes(claims, 5), least_clashes(claims, FAR)], [[[1], [2]], [[0]], [[0], [2]]])
        self.assertEqual(lot_widths(claims, [1, 2]), ([], [False] * 5 + [True]))
        self.assertEqual(lot_widths(claims, [0, 2]), ([], [False, False, True, False, False, False]))

    def test_lots_never_and_ever_met(self):
        for claims in made_lists(range(300, 350), most=5):
            never, ever = never_met(claims), ever_met(claims)
            widths = {tuple(lot): lot_widths(claims, lot) for lot in all_lots(len(claims))}
            self.assertEqual(never, least_ones(len(claims), lambda lot: widths[tuple(lot)] == NONE))
            self.assertEqual(ever, greatest_ones(len(claims), lambda lot: widths[tuple(lot)] != NONE))
            self.assertEqual(crossing(len(claims), never), sorted(others(len(claims), lot) for lot in ever))
            self.assertTrue(have_new_lists([never, ever], claims))

    def test_more_than_six_claims(self):
        claims = [("bit", number % 4, "x") for number in range(7)]
        self.assertEqual(least_clashes(claims, 2), [[2], [3], [6]])
        self.assertEqual(greatest_met(claims, 7), [list(range(7))])


class CrossingTest(unittest.TestCase):

    def test_against_the_listing_of_all_lots(self):
        for seed in range(200):
            random = Maker(seed).random
            many = random.randint(0, 6)
            lots = [sorted(random.sample(range(many), random.randint(0, min(3, many)))) for _ in range(random.randint(0, 5))]
            before = kept(lots)
            crossed = crossing(many, lots)
            self.assertEqual(crossed, least_ones(many, lambda lot: all(set(lot) & set(other) for other in lots)))
            self.assertTrue(have_new_lists([crossed, crossing(many, lots)], lots))
            self.assertEqual(lots, before)
            least = sorted({tuple(lot) for lot in lots if not any(set(other) < set(lot) for other in lots)})
            self.assertEqual(crossing(many, crossed), [list(lot) for lot in least])

    def test_the_edges(self):
        for many in range(9):
            self.assertEqual([crossing(many, []), crossing(many, [[]]), crossing(many, [[], []])], [[[]], [], []])
            self.assertEqual(crossing(many, [list(range(many))]), [[number] for number in range(many)])
            self.assertEqual(crossing(many, [[number] for number in range(many)]), [list(range(many))])
        self.assertEqual(crossing(8, [[0, 1], [0, 1], [2], [2, 3]]), [[0, 2], [1, 2]])
        self.assertEqual(len(crossing(8, [list(pair) for pair in itertools.combinations(range(8), 2)])), 8)

    def test_errors(self):
        for many in (-1, 9, True, None, "3", 10 ** 29):
            error = raised_by(crossing, many, None)
            self.assertEqual([error.__class__, error.value], [InvalidNumber, many])
        for lots in (None, ([1],), [(1,)], [[1, 0]], [[1, 1]], [[4]], [[-1]], [[True]], [[0], None], [0], {}, "x"):
            error = raised_by(crossing, 4, lots)
            self.assertIsInstance(error, InvalidClaims)
            self.assertIs(error.value, lots)


class FollowingTest(unittest.TestCase):

    def test_against_all_fillings_of_small_widths(self):
        for claims in made_lists(range(400, 450), most=3):
            claim = Maker(len(repr(claims)), ("x", "y")).claim(1, 0)
            told = following_widths(claims, claim)
            self.assertIs(is_plain(told), True)
            self.assertTrue(have_new_lists([told, following_widths(claims, claim)], [claims, claim]))
            for width in range(4):
                lots = met_lots(claims + [claim], width)
                wanted = all(len(claims) in lot for lot in lots if set(range(len(claims))) <= lot)
                self.assertIs(has_width(told, width), wanted)
            self.assertEqual(told, sure_widths(("then", ("and", *claims), claim)))

    def test_names_of_the_further_claim(self):
        self.assertEqual(following_widths([("top", "x")], ("top", "y")), ([True], [False]))
        self.assertEqual(following_widths([("top", "x")], ("some", "y", ("top", "y"))), ALL)
        self.assertEqual(following_widths([], ("same", "y", "y")), ALL)
        self.assertEqual(following_widths([], ("same", "y", 0)), ([True], [False]))
        self.assertEqual(following_widths([("or",)], ("or",)), ALL)
        self.assertEqual(following_widths([ring(3, 1, 1)], ring(3, 0, 1)), ALL)
        self.assertEqual(following_widths([ring(3, 1, 1)], ring(3, 0, 2)), ([], [True, False, True]))

    def test_idle_ones_and_bases(self):
        idle = 0
        for claims in made_lists(range(500, 540)):
            if len(claims) > 1:
                claims.append(claims[0] if len(claims) % 2 else ("or", claims[0], claims[1]))
            many = len(claims)
            told = idle_claims(claims)
            wanted = [number for number in range(many) if follows(("and", *claims[:number], *claims[number + 1:]), claims[number])]
            self.assertEqual(told, wanted)
            bases = least_bases(claims)
            self.assertEqual(bases, least_ones(many, lambda lot: self.is_base(claims, lot)))
            self.assertGreater(len(bases), 0)
            for base in bases:
                self.assertLessEqual(set(others(many, told)), set(base))
            self.assertTrue(have_new_lists([told, bases], claims))
            idle += len(told)
        self.assertGreater(idle, 30)

    def is_base(self, claims, lot):
        met = ("and", *[claims[number] for number in lot])
        return all(follows(met, claims[number]) for number in others(len(claims), lot))

    def test_bases_by_hand(self):
        less, apart, more = ("below", "x", "y"), ("not", ("same", "x", "y")), ("not", ("below", "y", "x"))
        self.assertEqual([idle_claims([less, apart, more]), least_bases([less, apart, more])], [[0, 1, 2], [[0], [1, 2]]])
        self.assertEqual([idle_claims([less, less]), least_bases([less, less])], [[0, 1], [[0], [1]]])
        self.assertEqual([idle_claims([("and",)]), least_bases([("and",), ("same", "x", "x")])], [[0], [[]]])
        self.assertEqual([idle_claims([less]), least_bases([less])], [[], [[0]]])
        # All follow from claims that can be met nowhere.
        self.assertEqual(least_bases([("or",), less, ("below", "y", "x")]), [[0], [1, 2]])
        # From some width on is not at every width.
        self.assertEqual(idle_claims([("bit", 3, "x"), ("not", ("same", 8, 0))]), [1])
        self.assertEqual(idle_claims([("and",), ("not", ("same", 8, 0))]), [0])


class ErrorsTest(unittest.TestCase):

    def test_what_is_no_list_of_claims(self):
        for wrong in (None, (), tuple(CLAIMS), [None], CLAIMS + ["x"], {0: ("top", "x")}, ("top", "x"), "x", [["top", "x"]]):
            for function, more in ((lot_widths, [None]), (can_meet, [None, None]), (least_clashes, [None]), (greatest_met, [None]),
                                   (mends, [None]), (clash_widths, [None]), (never_met, []), (ever_met, []), (following_widths, [None]),
                                   (idle_claims, []), (least_bases, [])):
                error = raised_by(function, wrong, *more)
                self.assertIsInstance(error, InvalidClaims, function.__name__)
                self.assertIs(error.value, wrong)

    def test_what_is_no_lot(self):
        for lot in (None, (0,), [4], [-1], [1, 0], [1, 1], [True], [0, False], ["0"], 0, {}, [[0]]):
            for function, more in ((lot_widths, []), (can_meet, [None]), (clash_widths, [])):
                error = raised_by(function, CLAIMS, lot, *more)
                self.assertIsInstance(error, InvalidNumber, (function.__name__, lot))
                self.assertIs(error.value, lot)

    def test_what_is_no_width_or_no_claim(self):
        for width in (-1, True, None, "3", [3]):
            for function, more in ((least_clashes, []), (greatest_met, []), (mends, []), (can_meet, [[0]])):
                error = raised_by(function, CLAIMS, *more, width)
                self.assertIsInstance(error, InvalidWidth)
                self.assertIs(error.value, width)
        for claim in POOL.wrong("claim")[:50]:
            error = raised_by(following_widths, CLAIMS, claim)
            self.assertIsInstance(error, InvalidClaim)
            self.assertIs(error.value, claim)

    def test_no_error_for_sizes(self):
        self.assertIs(can_meet(CLAIMS, [0, 1, 3], 10 ** 40), True)
        big = [ring(40, 1), ring(41, 1)]
        self.assertEqual(lot_widths(big, [0, 1])[1].count(True), 1)


if __name__ == "__main__":
    unittest.main()
