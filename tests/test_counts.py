"""Promises 45 to 47: how many fillings are met at each width, and the rule of these numbers."""

import unittest
from fractions import Fraction

from howeverwide.building import table_of
from howeverwide.counts import count_rule, counts_by, counts_part, how_many_by, how_many_met, is_count_rule
from howeverwide.errors import InvalidNumber, InvalidTable, InvalidWidth, TooMany
from howeverwide.tables import list_table
from tests.support import POOL, Maker, all_rows, have_new_lists, kept, plainly_takes, raised_by

BELOW = (2, [[0, 0, 1, 0], [1, 0, 1, 1]], [False, True])
ODD = (1, [[0, 1], [1, 0]], [False, True])
ALL, NOTHING = (1, [[0, 0]], [True]), (3, [[0] * 8], [False])
FAR = 10 ** 30 - 1


def ways(table, most):
    """The numbers of met fillings at the widths 0 to most, as the numbers of ways through the stands."""
    here = {0: 1}
    numbers = []
    for _ in range(most + 1):
        numbers.append(sum(many for stand, many in here.items() if table[2][stand]))
        there = {}
        for stand, many in here.items():
            for behind in table[1][stand]:
                there[behind] = there.get(behind, 0) + many
        here = there
    return numbers


def going_round(size, many=0):
    """A table of so many stands, one behind the other and round again, the first one an end."""
    return (many, [[(stand + 1) % size] * 2 ** many for stand in range(size)], [stand == 0 for stand in range(size)])


def late(size):
    """A table of so many stands, one behind the other, that takes all rows long enough to reach the last one."""
    return (1, [[min(stand + 1, size - 1)] * 2 for stand in range(size)], [stand == size - 1 for stand in range(size)])


def has_rule(numbers, size):
    """Tell by elimination whether some rule of a size tells all numbers from this place on."""
    rows = [[Fraction(numbers[at - 1 - back]) for back in range(size)] + [Fraction(numbers[at])] for at in range(size, len(numbers))]
    for column in range(size):
        chosen = next((row for row in rows if row[column] != 0), None)
        if chosen is None:
            continue
        rows = [[a - row[column] / chosen[column] * b for a, b in zip(row, chosen)] for row in rows if row is not chosen]
    return not any(row[size] != 0 for row in rows)


def made_tables(seeds, most_stands=7):
    for seed in seeds:
        maker = Maker(seed)
        yield maker.table(maker.random.randint(0, 3), maker.random.randint(1, most_stands))
    claims = [("below", "x", "y"), ("same", ("plus", "x", "y"), "z"), ("bit", 3, "x"), ("same", ("times", 3, "x"), "y"), ("under", "x", 3),
              ("same", "x", ("down", 2, "y")), ("same", ("both", "x", ("up", 1, "x")), 0), ("and",), ("or",), ("same", 4, 0)]
    for claim in claims:
        yield table_of(claim)


class HowManyTest(unittest.TestCase):

    def test_against_all_rows(self):
        for table in made_tables(range(80), 6):
            before = kept(table)
            for width in range(4 if table[0] < 3 else 3):
                wanted = sum(plainly_takes(table, row) for row in all_rows(table[0], width))
                self.assertEqual(how_many_met(table, width), wanted)
                self.assertEqual(how_many_by(table, width, 7), wanted % 7)
            self.assertEqual(table, before)

    def test_against_ways_up_to_the_width_100(self):
        for table in made_tables(range(20, 35)):
            numbers = ways(table, 100)
            self.assertEqual([how_many_met(table, width) for width in range(101)], numbers)
            for by in (2, 3, 10 ** 9, 1 + len(table[1])):
                self.assertEqual([how_many_by(table, width, by) for width in range(101)], [number % by for number in numbers])

    def test_the_edges(self):
        for many in range(7):
            every, nothing = (many, [[0] * 2 ** many], [True]), (many, [[0] * 2 ** many], [False])
            for width in (0, 1, 300, 2000):
                self.assertEqual([how_many_met(every, width), how_many_met(nothing, width)], [2 ** (many * width), 0])
                self.assertEqual(how_many_by(every, width, 10 ** 9), pow(2, many * width, 10 ** 9))
                self.assertEqual(how_many_by(nothing, width, 2), 0)
            self.assertEqual(how_many_by(every, FAR, 999999937), pow(2, many * FAR, 999999937))
        self.assertEqual([how_many_met(going_round(7), width) for width in (0, 1, 7, 1995, 2000)], [1, 0, 1, 1, 0])
        self.assertEqual([how_many_by(going_round(7), width, 2) for width in (7 * 10 ** 28, 7 * 10 ** 28 + 3)], [1, 0])
        self.assertEqual(how_many_met(BELOW, 2000), 2 ** 1999 * (2 ** 2000 - 1))
        self.assertEqual(how_many_by(BELOW, FAR, 10 ** 9), pow(2, FAR - 1, 10 ** 9) * (pow(2, FAR, 10 ** 9) - 1) % 10 ** 9)
        self.assertEqual(how_many_by(ODD, FAR, 2), 0)

    def test_far_widths_against_whole_numbers(self):
        for table in made_tables(range(40, 48)):
            for width in (300, 777, 2000):
                number = how_many_met(table, width)
                for by in (2, 9, 10 ** 9 - 1, 10 ** 9):
                    self.assertEqual(how_many_by(table, width, by), number % by)

    def test_with_200_stands(self):
        table = Maker(3).table(6, 200)
        self.assertEqual(how_many_met(table, 30), ways(table, 30)[30])
        self.assertGreater(how_many_met(table, 1200), 2 ** (6 * 1195))
        with self.assertRaises(TooMany) as caught:
            how_many_by(table, 5, 5)
        self.assertEqual(caught.exception.value, 200)

    def test_errors(self):
        for width in (-1, 2001, True, None, 2.5, "3"):
            for by in (5, None):
                error = raised_by(how_many_met, BELOW, width)
                self.assertEqual([error.__class__, error.value], [InvalidWidth, width])
        for width in (-1, 10 ** 30, False, "3"):
            error = raised_by(how_many_by, late(31), width, 1)
            self.assertEqual([error.__class__, error.value], [InvalidWidth, width])
        for by in (1, 0, -2, 10 ** 9 + 1, True, None):
            error = raised_by(how_many_by, late(31), 5, by)
            self.assertEqual([error.__class__, error.value], [InvalidNumber, by])
        self.assertEqual(raised_by(how_many_by, late(31), 5, 2).value, 31)
        self.assertEqual(how_many_by(late(30), 5, 2), 0)


class RuleTest(unittest.TestCase):

    def test_against_the_numbers_and_all_shorter_rules(self):
        sizes = set()
        for table in made_tables(range(100)):
            before = kept(table)
            first, rule = count_rule(table)
            self.assertTrue(have_new_lists([(first, rule), count_rule(table)], table))
            self.assertEqual(table, before)
            numbers = ways(table, 60)
            self.assertEqual([len(first), first], [len(rule), numbers[:len(rule)]])
            self.assertLessEqual(len(rule), len(table[1]))
            for width in range(len(rule), 61):
                self.assertEqual(sum(times * numbers[width - 1 - back] for back, times in enumerate(rule)), numbers[width])
            for size in range(len(rule)):
                self.assertFalse(has_rule(numbers, size), (table, size))
            self.assertTrue(has_rule(numbers, len(rule)))
            self.assertTrue(all(number.__class__ is int for number in first + rule))
            sizes.add(len(rule))
        self.assertLessEqual({0, 1, 2, 3, 4, 5}, sizes)

    def test_tables_whose_numbers_begin_with_noughts(self):
        self.assertEqual(count_rule(late(1)), ([1], [2]))
        self.assertEqual(count_rule(late(4)), ([0, 0, 0, 8], [2, 0, 0, 0]))
        self.assertEqual(count_rule(late(30)), ([0] * 29 + [2 ** 29], [2] + [0] * 29))
        self.assertEqual(count_rule(going_round(30)), ([1] + [0] * 29, [0] * 29 + [1]))
        self.assertEqual(count_rule(list_table(2, [[1, 2, 3]])), ([0, 0, 0, 1], [0, 0, 0, 0]))
        self.assertEqual(count_rule(list_table(2, [[]])), ([1], [0]))

    def test_tables_that_take_nothing_or_all(self):
        self.assertEqual([count_rule(NOTHING), count_rule((0, [[1], [0]], [False, False]))], [([], []), ([], [])])
        for many in range(7):
            self.assertEqual(count_rule((many, [[0] * 2 ** many], [True])), ([1], [2 ** many]))
        self.assertEqual(count_rule((0, [[1], [0]], [True, False])), ([1, 0], [0, 1]))

    def test_rules_of_30_stands(self):
        for seed in range(3):
            table = Maker(seed).table(seed * 3, 30)
            first, rule = count_rule(table)
            self.assertIs(is_count_rule(table, (first, rule)), True)
            numbers = ways(table, 120)
            self.assertEqual(first, numbers[:len(rule)])
            for width in range(len(rule), 121):
                self.assertEqual(sum(times * numbers[width - 1 - back] for back, times in enumerate(rule)), numbers[width])
        error = raised_by(count_rule, late(31))
        self.assertEqual([error.__class__, error.value], [TooMany, 31])
        # The table that is handed counts, not its least one.
        error = raised_by(count_rule, (1, [[0, 0]] * 40, [True] * 40))
        self.assertEqual([error.__class__, error.value], [TooMany, 40])

    def test_where_numbers_part(self):
        made = list(made_tables(range(200, 260), 4))
        parted = set()
        for one, other in zip(made, made[1:] + made[:1]):
            first, last = ways(one, 60), ways(other, 60)
            wanted = next((width for width in range(61) if first[width] != last[width]), None)
            self.assertEqual(counts_part(one, other), wanted)
            self.assertEqual(wanted is None, count_rule(one) == count_rule(other))
            parted.add(wanted)
        self.assertGreater(len(parted), 2)
        self.assertIsNone(counts_part(ALL, (1, [[1, 0], [0, 1]], [True, True])))
        self.assertEqual(counts_part(ODD, (2, [[0, 0, 0, 1], [1, 1, 1, 1]], [False, True])), 2)
        self.assertEqual(counts_part(ODD, (2, [[0, 0, 1, 1], [1, 1, 1, 1]], [False, True])), 1)
        self.assertIsNone(counts_part((1, [[1, 2], [1, 1], [2, 2]], [True, False, True]), (1, [[1, 2], [1, 1], [2, 2]], [True, True, False])))
        # Two rings part at last where the one, but not the other, comes back.
        self.assertEqual([counts_part(going_round(30), going_round(29)), counts_part(going_round(30), late(30))], [29, 0])
        self.assertEqual(counts_part((0, late(30)[1][:0] + [[min(stand + 1, 29)] for stand in range(30)], [False] * 29 + [True]), (0, [[0]], [False])), 29)

    def test_errors_of_where_numbers_part(self):
        for wrong in POOL.wrong("table"):
            self.assertIs(raised_by(counts_part, wrong, wrong).value, wrong)
            self.assertIs(raised_by(counts_part, late(31), wrong).value, wrong)
        for one, other, many in ((late(31), late(32), 31), (late(30), late(32), 32), (late(40), late(3), 40)):
            error = raised_by(counts_part, one, other)
            self.assertEqual([error.__class__, error.value], [TooMany, many])


class JudgedRulesTest(unittest.TestCase):

    def test_rules_that_tell_the_numbers(self):
        for table in made_tables(range(60), 5):
            first, rule = count_rule(table)
            self.assertIs(is_count_rule(table, (first, rule)), True)
            numbers = ways(table, 60)
            for factor in ([1], [-3], [2, 5]):
                longer = self.times(rule, factor)
                self.assertIs(is_count_rule(table, (numbers[:len(longer)], longer)), True, (table, longer))
            for at in range(len(rule)):
                for other in (first[at] + 1, -first[at] - 1, True, None):
                    self.assertIs(is_count_rule(table, (first[:at] + [other] + first[at + 1:], rule)), False)
                for other in (rule[at] + 1, 0.5, None, str(rule[at])):
                    changed = rule[:at] + [other] + rule[at + 1:]
                    self.assertIs(is_count_rule(table, (first, changed)), False, (table, changed))
            if len(rule) > 0:
                self.assertIs(is_count_rule(table, (first[:-1], rule[:-1])), False)
                self.assertIs(is_count_rule(table, (first, rule[:-1])), False)
                self.assertIs(is_count_rule(table, (first[:-1], rule)), False)
            self.assertIs(is_count_rule(table, (numbers[:len(rule) + 1], rule)), False)
            self.assertIs(is_count_rule(table, [first, rule]), False)
            self.assertIs(is_count_rule(table, (tuple(first), rule)), False)
            self.assertIs(is_count_rule(table, (first, rule, rule)), False)

    def times(self, rule, factor):
        """The rule of the numbers less so many times each of those ahead: it is told by them, too."""
        one, other = [1] + [-times for times in rule], [1] + [-times for times in factor]
        product = [0] * (len(one) + len(other) - 1)
        for i, a in enumerate(one):
            for j, b in enumerate(other):
                product[i + j] += a * b
        return [-times for times in product[1:]]

    def test_rules_that_fail_late(self):
        # The numbers of this table are noughts up to the width 29: a rule that tells of nothing fails just there.
        self.assertIs(is_count_rule(late(30), ([], [])), False)
        self.assertIs(is_count_rule(late(30), ([0] * 29, [0] * 29)), False)
        self.assertIs(is_count_rule(late(30), ([0] * 29 + [2 ** 29], [0] * 30)), False)
        self.assertIs(is_count_rule(late(30), ([0] * 29 + [2 ** 29] + [2 ** 30] * 2, [2] + [0] * 31)), False)
        self.assertIs(is_count_rule(late(30), ([0] * 29 + [2 ** 29, 2 ** 30], [2] + [0] * 30)), True)
        self.assertIs(is_count_rule(NOTHING, ([], [])), True)
        self.assertIs(is_count_rule(NOTHING, ([0, 0], [10 ** 29, -5])), True)
        self.assertIs(is_count_rule(NOTHING, ([0, 1], [0, 0])), False)

    def test_rules_of_60_items(self):
        self.assertIs(is_count_rule(ALL, ([2 ** width for width in range(60)], [2] + [0] * 59)), True)
        self.assertIs(is_count_rule(ALL, ([2 ** width for width in range(60)], [0] * 59 + [2 ** 60])), True)
        self.assertIs(is_count_rule(ALL, ([2 ** width for width in range(60)], [0] * 58 + [1, 2 ** 60])), False)

    def test_any_value(self):
        for value, _ in POOL.entries:
            self.assertIs(is_count_rule(BELOW, value), False)
            error = raised_by(is_count_rule, late(31), value)
            self.assertEqual([error.__class__, error.value], [TooMany, 31])
            self.assertIsInstance(raised_by(is_count_rule, None, value), InvalidTable)
        self.assertIs(is_count_rule(ALL, ([True], [2])), False)
        self.assertIs(is_count_rule(going_round(1), ([1], [True])), False)


class RoundTest(unittest.TestCase):

    def test_against_the_numbers_to_the_width_400(self):
        for table in made_tables(range(300, 350), 5):
            numbers = ways(table, 400)
            for by in (2, 3, 4, 12, 50):
                error = raised_by(counts_by, table, by)
                if error is not None:
                    self.assertEqual([error.__class__, error.value], [TooMany, 5001])
                    continue
                ahead, turn = counts_by(table, by)
                self.assertTrue(have_new_lists([(ahead, turn), counts_by(table, by)], table))
                told = [number % by for number in numbers]
                self.assertEqual((ahead + turn * 401)[:401], told)
                self.assertNotEqual(ahead[-1:], turn[-1:])
                for size in range(1, len(turn)):
                    self.assertNotEqual(turn[size:] + turn[:size], turn)

    def test_by_hand(self):
        self.assertEqual(counts_by(BELOW, 2), ([0, 1], [0]))
        self.assertEqual([counts_by(ALL, 2), counts_by(ALL, 3), counts_by(ALL, 50)], [([1], [0]), ([], [1, 2]), self.twos(50)])
        self.assertEqual([counts_by(NOTHING, 2), counts_by(NOTHING, 50)], [([], [0])] * 2)
        self.assertEqual(counts_by(going_round(30), 2), ([], [1] + [0] * 29))
        self.assertEqual(counts_by(list_table(1, [[1, 0, 1]]), 2), ([0, 0, 0, 1], [0]))

    def twos(self, by):
        met = []
        number = 1
        while number not in met:
            met.append(number)
            number = number * 2 % by
        return (met[:met.index(number)], met[met.index(number):])

    def test_rounds_as_long_as_is_allowed(self):
        # By 7 the ways along the chain come back behind 6 * 49 widths, those round the ring behind 17.
        table = self.chain_and_ring(1)
        ahead, turn = counts_by(table, 7)
        self.assertEqual([len(ahead), len(turn)], [2, 6 * 49 * 17])
        here, told = [1] + [0] * (len(table[1]) - 1), []
        for _ in range(10000):
            told.append(sum(many for many, end in zip(here, table[2]) if end) % 7)
            there = [0] * len(here)
            for many, step in zip(here, table[1]):
                for behind in step:
                    there[behind] = (there[behind] + many) % 7
            here = there
        self.assertEqual((ahead + turn * 3)[:10000], told)
        error = raised_by(counts_by, self.chain_and_ring(2), 7)
        self.assertEqual([error.__class__, error.value], [TooMany, 5001])

    def chain_and_ring(self, late_by):
        """Behind a first row of stands, the next letter leads into a chain of 8 stands, or into a ring of 17."""
        nothing = late_by + 1 + 8 + 17
        steps = [[stand + 1, nothing, nothing, nothing] for stand in range(late_by)]
        chain, ring = late_by + 1, late_by + 9
        steps.append([chain, ring, nothing, nothing])
        steps += [[stand, stand, stand, stand + 1] for stand in range(chain, ring - 1)] + [[ring - 1] * 3 + [nothing]]
        steps += [[ring + (place + 1) % 17, nothing, nothing, nothing] for place in range(17)]
        steps.append([nothing] * 4)
        return (2, steps, [stand in (ring - 1, ring) for stand in range(nothing + 1)])

    def test_more_than_5000(self):
        for table, by in ((Maker(1).table(6, 30), 2), (Maker(2).table(2, 30), 50)):
            error = raised_by(counts_by, table, by)
            self.assertEqual([error.__class__, error.value], [TooMany, 5001])

    def test_errors(self):
        for by in (0, 1, -2, 51, True, None, "2", 10 ** 29):
            error = raised_by(counts_by, late(31), by)
            self.assertEqual([error.__class__, error.value], [InvalidNumber, by])
        error = raised_by(counts_by, late(31), 2)
        self.assertEqual([error.__class__, error.value], [TooMany, 31])


if __name__ == "__main__":
    unittest.main()
