"""Promises 17 to 19: tables turned, joined, with a name left out, and with names put to places."""

import itertools
import unittest

from howeverwide.errors import InvalidName, InvalidNumber, TooMany, Unlike
from howeverwide.joins import every, joined, placed, some, turned
from howeverwide.tables import is_least, least, rows_to
from tests.support import Maker, have_new_lists, plainly_takes, raised_by, rows_up_to

RULES = {
    "and": lambda one, other: one and other,
    "or": lambda one, other: one or other,
    "unlike": lambda one, other: one != other,
    "then": lambda one, other: other or not one,
}


def cycle(stands, many=0):
    """A table that takes the rows whose length is a multiple of its number of stands."""
    return (many, [[(stand + 1) % stands] * 2 ** many for stand in range(stands)], [stand == 0 for stand in range(stands)])


def guessed(places):
    """A table of two names: once the second one's bit is 1 with the first one's, so many letters are counted.

    When the second name is left out, the table takes rows whose letter so many places before the
    end is 1: all lots of the stands with the stand 0 among them are reached.
    """
    steps = [[0, 0, 0, 1]] + [[stand + 1] * 4 for stand in range(1, places)] + [[0] * 4]
    return (2, steps, [stand == places for stand in range(places + 1)])


def rings(ahead, one, other):
    """A table of one name, which tells at the last of some stands into which of two rings to go.

    When the name is left out, there is a lot for each stand ahead, and one for each pair in the rings.
    """
    steps = [[stand + 1] * 2 for stand in range(ahead - 1)] + [[ahead, ahead + one]]
    steps += [[ahead + (stand + 1) % one] * 2 for stand in range(one)]
    steps += [[ahead + one + (stand + 1) % other] * 2 for stand in range(other)]
    ends = [False] * ahead + [stand == one - 1 for stand in range(one)] + [stand == other - 1 for stand in range(other)]
    return (1, steps, ends)


def plain_some(table, place, row, rule):
    """Tell whether some, or all, bits of the name with a place let the table take a row."""
    low = 2 ** place
    told = []
    for bits in itertools.product((0, 1), repeat=len(row)):
        letters = [letter % low + letter // low * 2 * low + bit * low for letter, bit in zip(row, bits)]
        told.append(plainly_takes(table, letters))
    return rule(told)


class JoinedTest(unittest.TestCase):

    def test_turned(self):
        for seed in range(200):
            maker = Maker(seed)
            table = maker.table(maker.random.randint(0, 2), maker.random.randint(1, 6))
            made = turned(table)
            self.assertIs(is_least(made), True)
            self.assertEqual(turned(made), least(table))
            self.assertTrue(have_new_lists(made, table))
            for row in rows_up_to(table[0], 4):
                self.assertIs(plainly_takes(made, row), not plainly_takes(table, row))

    def test_joined(self):
        for seed in range(150):
            maker = Maker(seed)
            many = maker.random.randint(0, 2)
            one, other = maker.table(many, maker.random.randint(1, 5)), maker.table(many, maker.random.randint(1, 5))
            for way, rule in RULES.items():
                made = joined(way, one, other)
                self.assertIs(is_least(made), True)
                for row in rows_up_to(many, 4):
                    self.assertIs(plainly_takes(made, row), rule(plainly_takes(one, row), plainly_takes(other, row)))

    def test_unlike_and_wrong_ways(self):
        one, other = cycle(2, 1), cycle(2, 2)
        error = raised_by(joined, "or", one, other)
        self.assertIs(error.__class__, Unlike)
        self.assertIs(error.value, other)
        for way in ("iff", "And", None, ["and"], ("and",), True):
            error = raised_by(joined, way, None, other)
            self.assertIs(error.__class__, InvalidName)
            self.assertIs(error.value, way)

    def test_too_many_pairs(self):
        made = joined("and", cycle(40), cycle(49))
        self.assertEqual(len(made[1]), 40 * 49)
        self.assertEqual(joined("or", cycle(40), cycle(50)), least(joined("or", cycle(40), cycle(50))))
        # 16 * 125 pairs are just 2,000, and 2,001 = 3 * 667 = 23 * 87 are one more.
        self.assertEqual(len(joined("and", cycle(16), cycle(125))[1]), 2000)
        for one, other in ((cycle(23), cycle(87)), (cycle(199), cycle(200)), (cycle(64, 6), cycle(63, 6))):
            for way in RULES:
                error = raised_by(joined, way, one, other)
                self.assertIs(error.__class__, TooMany)
                self.assertEqual(error.value, 2001)
        # Stands that alike ones make superfluous count as they are handed.
        idle = (0, cycle(87)[1], [False] * 87)
        self.assertIs(raised_by(joined, "and", cycle(23), idle).__class__, TooMany)
        self.assertIs(raised_by(joined, "and", cycle(23), (1, [[0, 0]], [True])).__class__, Unlike)

    def test_with_200_stands(self):
        table = Maker(3).table(6, 200)
        self.assertEqual(joined("and", table, (6, [[0] * 64], [True])), least(table))
        self.assertEqual(joined("unlike", table, table), (6, [[0] * 64], [False]))


class LeftOutTest(unittest.TestCase):

    def test_some_and_every(self):
        for seed in range(250):
            maker = Maker(seed)
            many = maker.random.randint(1, 2)
            table = maker.table(many, maker.random.randint(1, 5))
            place = maker.random.randrange(many)
            for function, rule in ((some, any), (every, all)):
                made = function(table, place)
                self.assertEqual([made[0], is_least(made)], [many - 1, True])
                self.assertTrue(have_new_lists(made, table))
                for row in rows_up_to(many - 1, 3):
                    self.assertIs(plainly_takes(made, row), plain_some(table, place, row, rule), (table, place, row))

    def test_three_names(self):
        for seed in range(60):
            table = Maker(seed).table(3, 4)
            for place in range(3):
                for row in rows_up_to(2, 2):
                    self.assertIs(plainly_takes(some(table, place), row), plain_some(table, place, row, any))
                    self.assertIs(plainly_takes(every(table, place), row), plain_some(table, place, row, all))

    def test_what_always_holds(self):
        for seed in range(100):
            table = Maker(seed).table(3, 5)
            for place in range(3):
                self.assertEqual(every(table, place), turned(some(turned(table), place)))
            for one, other in ((0, 1), (0, 2), (1, 2)):
                self.assertEqual(some(some(table, one), other - 1), some(some(table, other), one))
                self.assertEqual(every(every(table, one), other - 1), every(every(table, other), one))

    def test_wrong_places(self):
        for function in (some, every):
            for table, place in ((cycle(2), 0), (cycle(2, 1), 1), (cycle(2, 1), -1), (cycle(2, 2), True), (cycle(2, 2), None)):
                error = raised_by(function, table, place)
                self.assertIs(error.__class__, InvalidNumber)
                self.assertIs(error.value, place)

    def test_too_many_lots(self):
        made = some(guessed(10), 1)
        self.assertEqual([len(made[1]), is_least(made)], [1024, True])
        for row in rows_up_to(1, 12)[-3000:]:
            self.assertIs(plainly_takes(made, row), len(row) >= 10 and row[-10] == 1)
        for function in (some, every):
            for table in (guessed(11), guessed(199)):
                error = raised_by(function, table, 1)
                self.assertIs(error.__class__, TooMany)
                self.assertEqual(error.value, 2001)

    def test_just_as_many_lots_as_are_allowed(self):
        self.assertEqual(27 * 74, 1998)
        self.assertEqual(len(every(rings(2, 27, 74), 0)[1]), 2000)
        self.assertEqual(some(rings(2, 27, 74), 0)[0], 0)
        for function in (some, every):
            error = raised_by(function, rings(3, 27, 74), 0)
            self.assertIs(error.__class__, TooMany)
            self.assertEqual(error.value, 2001)
            self.assertIs(raised_by(function, rings(3, 27, 74), 1).__class__, InvalidNumber)

    def test_with_200_stands(self):
        sink = (6, [[0] * 32 + [stand] * 32 for stand in range(200)], [True] * 200)
        self.assertEqual(some(sink, 5), (5, [[0] * 32], [True]))
        around = (6, [[(stand + 1) % 200] * 64 for stand in range(200)], [stand == 7 for stand in range(200)])
        self.assertEqual(every(around, 3), (5, [step[:32] for step in around[1]], around[2]))
        self.assertIs(raised_by(some, Maker(4).table(6, 200), 5).__class__, TooMany)


class PlacedTest(unittest.TestCase):

    def test_against_all_rows(self):
        for seed in range(300):
            maker = Maker(seed)
            table = maker.table(maker.random.randint(0, 3), maker.random.randint(1, 5))
            many = maker.random.randint(1, 3)
            places = [maker.random.randrange(many) for _ in range(table[0])]
            made = placed(table, places, many)
            self.assertEqual([made[0], is_least(made)], [many, True])
            self.assertTrue(have_new_lists(made, [table, places]))
            for row in rows_up_to(many, 2):
                letters = [sum((letter // 2 ** place % 2) * 2 ** at for at, place in enumerate(places)) for letter in row]
                self.assertIs(plainly_takes(made, row), plainly_takes(table, letters))

    def test_how_many_rows(self):
        for seed in range(100):
            maker = Maker(seed)
            table = maker.table(2, 4)
            places = maker.random.sample(range(3), 2)
            made = placed(table, places, 3)
            for width in range(3):
                self.assertEqual(len(rows_to(made, width)), 2 ** width * len(rows_to(table, width)))

    def test_edges(self):
        self.assertEqual(placed(cycle(2), [], 0), cycle(2))
        self.assertEqual(placed(cycle(2), [], 6), cycle(2, 6))
        equal = (2, [[0, 1, 1, 0], [1, 1, 1, 1]], [True, False])
        self.assertEqual(placed(equal, [3, 3], 4), (4, [[0] * 16], [True]))
        self.assertEqual(placed(equal, [1, 0], 2), equal)
        table = Maker(6).table(6, 200)
        self.assertEqual(placed(placed(table, [5, 4, 3, 2, 1, 0], 6), [5, 4, 3, 2, 1, 0], 6), least(table))

    def test_wrong_places_and_numbers(self):
        table = (2, [[0] * 4], [True])
        for places in ([0], [0, 1, 2], [0, -1], [0, True], (0, 1), None, [0, None], []):
            error = raised_by(placed, table, places, 9)
            self.assertIs(error.__class__, InvalidNumber)
            self.assertIs(error.value, places)
        for places, many in (([0, 1], 1), ([0, 6], 6), ([0, 1], 7), ([0, 1], True), ([0, 0], 0), ([0, 10 ** 29], 6), ([0, 1], None)):
            error = raised_by(placed, table, places, many)
            self.assertIs(error.__class__, InvalidNumber)
            self.assertIs(error.value, many)


if __name__ == "__main__":
    unittest.main()
