"""Promises 13 to 16: tables, the rows that they take, least ones, and where two part."""

import unittest

from howeverwide.errors import InvalidNumber, InvalidTable, InvalidWidth, InvalidWord, Unlike
from howeverwide.tables import alike_stands, first_taken, is_least, is_table, least, list_table, parting_row, reached
from howeverwide.tables import row_of, rows_to, stand_behind, takes, words_of
from tests.support import Maker, all_rows, have_new_lists, plain_letters, plainly_takes, raised_by, rows_up_to


def made_tables(many_seeds, most_names=2, most_stands=7):
    for seed in range(many_seeds):
        maker = Maker(seed)
        yield maker, maker.table(maker.random.randint(0, most_names), maker.random.randint(1, most_stands))


def chain_of(stands, many, around=0):
    """A table that goes on by any letter, of which only the last stand is an end; from it back."""
    steps = [[min(stand + 1, stands)] * 2 ** many for stand in range(stands - 1)] + [[around] * 2 ** many]
    return (many, steps, [False] * (stands - 1) + [True])


def plain_first_rows(table, longest):
    """The first row of each stand, found by going through all rows."""
    found = {}
    for row in rows_up_to(table[0], longest):
        stand = 0
        for letter in row:
            stand = table[1][stand][letter]
        found.setdefault(stand, row)
    return list(found.items())


class FormTest(unittest.TestCase):

    def test_what_is_a_table(self):
        for value in ((0, [[0]], [True]), (6, [[0] * 64], [False]), (1, [[0, 1], [1, 1]], [True, True]),
                      (0, [[0]] * 201, [False] * 201)):
            self.assertIs(is_table(value), True)
        for value in ((7, [[0] * 128], [True]), (-1, [[0]], [True]), (True, [[0, 0]], [True]), (1, [], []), (1, [[0]], [True]),
                      (1, [[0, 0, 0]], [True]), (1, [[0, 1]], [True]), (1, [[0, -1]], [True]), (1, [[0, False]], [True]),
                      (1, [[0, 0]], []), (1, [[0, 0]], [True, True]), (1, [[0, 0]], [1]), (1, [[0, 0]], [None]),
                      (1, ([0, 0],), [True]), (1, [(0, 0)], [True]), (1, [[0, 0]], (True,)), [1, [[0, 0]], [True]],
                      (1, [[0, 0]]), (1, [[0, 0]], [True], 0), ("1", [[0, 0]], [True]), (1, None, [True]), None):
            self.assertIs(is_table(value), False, value)


class RowsTest(unittest.TestCase):

    def test_stands_behind_rows(self):
        for _, table in made_tables(60):
            for row in rows_up_to(table[0], 3):
                self.assertIs(takes(table, row), plainly_takes(table, row))
                self.assertIs(takes(table, row), table[2][stand_behind(table, row)])
        self.assertEqual(stand_behind((6, [[0] * 63 + [1], [1] * 64], [True, False]), [63]), 1)
        self.assertEqual(stand_behind((0, [[1], [0]], [True, False]), [0] * 301), 1)

    def test_wrong_rows(self):
        for table, wrong in (((0, [[0]], [True]), [1]), ((1, [[0, 0]], [True]), [2]), ((6, [[0] * 64], [True]), [64]),
                             ((1, [[0, 0]], [True]), [True]), ((1, [[0, 0]], [True]), (0, 1)), ((1, [[0, 0]], [True]), [0, -1])):
            for function in (stand_behind, takes):
                error = raised_by(function, table, wrong)
                self.assertIs(error.__class__, InvalidNumber)
                self.assertIs(error.value, wrong)

    def test_rows_of_words_and_back(self):
        for many in range(4):
            for width in range(3):
                for row in all_rows(many, width):
                    self.assertEqual(row_of(width, words_of(many, row)), row)
        for words in ([5, 2], [7], [], [1, 2, 3, 4, 5, 6]):
            self.assertEqual(row_of(3, words), plain_letters(3, words))
            self.assertEqual(words_of(len(words), row_of(3, words)), words)
        self.assertEqual([row_of(3, []), row_of(0, [0, 0]), row_of(0, [])], [[0, 0, 0], [], []])
        self.assertEqual([words_of(0, [0, 0]), words_of(2, []), words_of(6, [63] * 64)], [[], [0, 0], [2 ** 64 - 1] * 6])
        self.assertEqual(row_of(64, [2 ** 64 - 1] * 6), [63] * 64)

    def test_wrong_words(self):
        for words in ([8], [0] * 7, [-1], [True], (1, 2), 5, None, ["x"], [1, 2, 3, 8]):
            error = raised_by(row_of, 3, words)
            self.assertIs(error.__class__, InvalidWord)
            self.assertIs(error.value, words)
        self.assertIs(raised_by(words_of, 7, [0]).__class__, InvalidNumber)
        self.assertEqual(raised_by(words_of, 7, [900]).value, 7)
        self.assertEqual(raised_by(words_of, 2, [4]).value, [4])


class ReachedTest(unittest.TestCase):

    def test_against_all_rows(self):
        for _, table in made_tables(150, 2, 4):
            self.assertEqual(reached(table), plain_first_rows(table, 3))
            taken = [row for row in rows_up_to(table[0], 3) if plainly_takes(table, row)]
            self.assertEqual(first_taken(table), taken[0] if taken else None)

    def test_long_ways(self):
        self.assertEqual(reached(chain_of(200, 0))[-1], (199, [0] * 199))
        self.assertEqual(first_taken(chain_of(200, 6)), [0] * 199)
        self.assertIsNone(first_taken((1, [[0, 0], [1, 1]], [False, True])))
        self.assertEqual(first_taken((1, [[0, 0]], [True])), [])


class LeastTest(unittest.TestCase):

    def test_alike_stands_against_all_rows(self):
        for _, table in made_tables(200):
            lots = {}
            for stand in range(len(table[1])):
                # Stands that are not alike are parted by a row that is shorter than there are stands.
                told = tuple(plainly_takes(self.begun_at(table, stand), row) for row in self.telling_rows(table))
                lots.setdefault(told, []).append(stand)
            self.assertEqual(alike_stands(table), list(lots.values()))

    def telling_rows(self, table):
        return rows_up_to(table[0], 6 if table[0] < 2 else 4)

    def begun_at(self, table, stand):
        """The same table with a stand put first, numbers exchanged with that of the first one."""
        many, steps, ends = table
        swap = {0: stand, stand: 0}
        order = [swap.get(one, one) for one in range(len(steps))]
        return (many, [[swap.get(to, to) for to in steps[one]] for one in order], [ends[one] for one in order])

    def test_least_takes_the_same_and_is_one(self):
        by_rows = {}
        for _, table in made_tables(600, 1, 4):
            made = least(table)
            told = tuple(plainly_takes(table, row) for row in rows_up_to(table[0], 7))
            self.assertEqual(told, tuple(plainly_takes(made, row) for row in rows_up_to(table[0], 7)))
            self.assertEqual(by_rows.setdefault((table[0], told), made), made)
            self.assertEqual([is_table(made), is_least(made), least(made) == made], [True, True, True])
            self.assertIs(is_least(table), table == made)
            self.assertEqual([stand for stand, _ in reached(made)], list(range(len(made[1]))))
            self.assertTrue(all(len(lot) == 1 for lot in alike_stands(made)))
            self.assertTrue(have_new_lists(made, table))

    def test_edges(self):
        self.assertEqual(alike_stands((1, [[0, 0], [1, 1], [2, 0]], [True, True, True])), [[0, 1, 2]])
        self.assertEqual(alike_stands((1, [[0, 0], [1, 1], [2, 0]], [True, False, True])), [[0, 2], [1]])
        self.assertEqual(least((1, [[0, 0], [1, 1]], [False, True])), (1, [[0, 0]], [False]))
        self.assertEqual(least((0, [[1], [2], [3], [0]], [True, False, True, False])), (0, [[1], [0]], [True, False]))
        self.assertIs(is_least((1, [[0, 0], [0, 0]], [True, False])), False)
        self.assertIs(is_least((1, [[2, 1], [1, 1], [2, 2]], [False, True, False])), False)

    def test_with_200_stands(self):
        for many in (0, 1, 6):
            chain = chain_of(200, many)
            self.assertEqual(least(chain), chain)
            self.assertEqual(alike_stands(chain), [[stand] for stand in range(200)])
        maker = Maker(5)
        table = maker.table(6, 200)
        self.assertEqual(least(table), least(least(table)))
        halves = (0, [[(stand + 1) % 200] for stand in range(200)], [stand % 2 == 0 for stand in range(200)])
        self.assertEqual(least(halves), (0, [[1], [0]], [True, False]))


class PartingTest(unittest.TestCase):

    def test_against_all_rows(self):
        for maker, one in made_tables(500, 2, 3):
            other = maker.table(one[0], maker.random.randint(1, 3))
            if maker.random.random() < 0.3:
                other = (one[0], one[1], [not end if at == 2 else end for at, end in enumerate(one[2])])
            parts = [row for row in rows_up_to(one[0], 4) if plainly_takes(one, row) != plainly_takes(other, row)]
            self.assertEqual(parting_row(one, other), parts[0] if parts else None)
            self.assertIs(parting_row(one, other) is None, least(one) == least(other))

    def test_long_rows(self):
        one, other = chain_of(100, 0, 0), chain_of(99, 0, 0)
        self.assertEqual(parting_row(one, other), [0] * 98)
        one = (0, [[(stand + 1) % 100] for stand in range(100)], [stand == 0 for stand in range(100)])
        other = (0, [[(stand + 1) % 99] for stand in range(99)], [stand == 0 for stand in range(99)])
        self.assertEqual(parting_row(one, other), [0] * 99)
        # The row is as long as it can be: as both have stands together, less 2.
        never, late = (0, [[0]], [False]), (0, [[1], [2], [3], [3]], [False, False, False, True])
        self.assertEqual(parting_row(never, late), [0] * (1 + 4 - 2))
        table = Maker(8).table(6, 200)
        self.assertIsNone(parting_row(table, least(table)))
        self.assertIsNotNone(parting_row(table, Maker(9).table(6, 200)))

    def test_unlike(self):
        one, other = (1, [[0, 0]], [True]), (2, [[0, 0, 0, 0]], [True])
        error = raised_by(parting_row, one, other)
        self.assertIs(error.__class__, Unlike)
        self.assertIs(error.value, other)
        self.assertIs(raised_by(parting_row, None, other).__class__, InvalidTable)


class ListsOfRowsTest(unittest.TestCase):

    def test_against_all_rows(self):
        for _, table in made_tables(100):
            for width in range(4):
                wanted = [row for row in all_rows(table[0], width) if plainly_takes(table, row)]
                self.assertEqual(rows_to(table, width), wanted)

    def test_long_ones(self):
        odd_once = (1, [[0, 1], [1, 2], [2, 2]], [False, True, False])
        rows = rows_to(odd_once, 300)
        self.assertEqual(rows, sorted([0] * at + [1] + [0] * (299 - at) for at in range(300)))
        self.assertTrue(have_new_lists(rows, []))
        self.assertEqual(rows_to((6, [[0] * 63 + [0]], [False]), 300), [])
        self.assertEqual(rows_to((1, [[0, 0]], [True]), 0), [[]])
        self.assertEqual(rows_to((0, [[0]], [True]), 300), [[0] * 300])
        dense = (6, [[(stand + 1) % 200] + [199] * 63 for stand in range(199)] + [[199] * 64], [True] * 199 + [False])
        self.assertEqual(rows_to(dense, 198), [[0] * 198])
        for width in (-1, 301, True, None, "3"):
            self.assertIs(raised_by(rows_to, odd_once, width).__class__, InvalidWidth)

    def test_tables_of_lists(self):
        for seed in range(150):
            maker = Maker(seed)
            many = maker.random.randint(0, 2)
            pool = rows_up_to(many, 4)
            rows = [maker.random.choice(pool) for _ in range(maker.random.randint(0, 8))]
            table = list_table(many, rows)
            self.assertIs(is_least(table), True)
            for row in rows_up_to(many, 5 if many < 2 else 4):
                self.assertIs(plainly_takes(table, row), row in rows)

    def test_tables_of_long_lists(self):
        rows = [[(number * 7 + place * (number + 3)) % 64 for place in range(12)] for number in range(40)]
        table = list_table(6, rows)
        self.assertEqual(rows_to(table, 12), sorted(rows))
        self.assertEqual([rows_to(table, width) for width in (0, 11, 13)], [[], [], []])
        self.assertEqual(list_table(3, []), (3, [[0] * 8], [False]))
        self.assertEqual(list_table(0, [[]]), (0, [[1], [1]], [True, False]))

    def test_wrong_lists(self):
        for rows in ([[2]], [[0], 1], ([0],), [(0,)], [[True]], [[-1]], None, {}, [None]):
            error = raised_by(list_table, 1, rows)
            self.assertIs(error.__class__, InvalidNumber)
            self.assertIs(error.value, rows)
        for many in (7, -1, True, None):
            error = raised_by(list_table, many, [[9]])
            self.assertIs(error.__class__, InvalidNumber)
            self.assertIs(error.value, many)


if __name__ == "__main__":
    unittest.main()
