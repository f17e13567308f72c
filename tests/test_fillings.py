"""Promises 42 to 44: met fillings, in Python's order."""

import unittest

from howeverwide.building import table_of
from howeverwide.errors import InvalidFilling, InvalidNames, InvalidNumber, InvalidTable, InvalidWidth, TooMany
from howeverwide.fillings import all_met, first_met, is_met, last_met, met_ahead, met_numbered, next_met, ones_met
from tests.support import Maker, fillings, have_new_lists, kept, plain_letters, plainly_takes, raised_by

NAMES = ["a", "b", "c", "d", "e", "f"]
BELOW, XY = (2, [[0, 0, 1, 0], [1, 0, 1, 1]], [False, True]), ["x", "y"]
TOP = 2 ** 64 - 1
FUNCTIONS = {is_met: "filling", first_met: None, last_met: None, next_met: "filling", met_numbered: "number", met_ahead: "filling",
             all_met: None, ones_met: None}


def met_ones(table, names, width):
    """All met fillings, in order, by going through all."""
    return [filling for filling in fillings(names, width)
            if plainly_takes(table, plain_letters(width, [word for _, word in filling]))]


def others(function, filling, number):
    return {"filling": [filling], "number": [number], None: []}[FUNCTIONS[function]]


class FillingsTest(unittest.TestCase):

    def test_against_the_list_of_all_fillings(self):
        for seed in range(150):
            maker = Maker(seed)
            table = maker.table(maker.random.randint(0, 3), maker.random.randint(1, 6))
            names = NAMES[:table[0]]
            before = kept((table, names))
            for width in range(4 if table[0] < 3 else 3):
                self.look_at(table, names, width)
            self.assertEqual((table, names), before)

    def look_at(self, table, names, width):
        wanted = met_ones(table, names, width)
        self.assertEqual(first_met(table, names, width), wanted[0] if wanted else None)
        self.assertEqual(last_met(table, names, width), wanted[-1] if wanted else None)
        self.assertEqual(all_met(table, names, width), wanted)
        for number in range(len(wanted) + 2):
            self.assertEqual(met_numbered(table, names, width, number), wanted[number] if number < len(wanted) else None)
        for place, filling in enumerate(fillings(names, width)):
            self.assertIs(is_met(table, names, width, filling), filling in wanted)
            if place % 3 == 0:
                ahead = [one for one in wanted if one < filling]
                self.assertEqual(met_ahead(table, names, width, filling), len(ahead))
                behind = [one for one in wanted if one > filling]
                self.assertEqual(next_met(table, names, width, filling), behind[0] if behind else None)
        ones = [[sum(filling[at][1] // 2 ** place % 2 for filling in wanted) for place in range(width)] for at in range(len(names))]
        self.assertEqual(ones_met(table, names, width), ones)

    def test_lists_are_new(self):
        for function in FUNCTIONS:
            arguments = [BELOW, XY, 3] + others(function, [("x", 1), ("y", 2)], 4)
            before = kept(arguments)
            first, again = function(*arguments), function(*arguments)
            self.assertEqual([first, arguments], [again, before])
            self.assertTrue(have_new_lists([first, again], arguments))

    def test_the_width_0(self):
        for table, met in ((BELOW, False), ((2, [[0] * 4], [True]), True)):
            filling = [("x", 0), ("y", 0)]
            self.assertIs(is_met(table, XY, 0, filling), met)
            self.assertEqual([first_met(table, XY, 0), last_met(table, XY, 0), met_numbered(table, XY, 0, 0)], [filling if met else None] * 3)
            self.assertEqual([all_met(table, XY, 0), ones_met(table, XY, 0)], [[filling] if met else [], [[], []]])
            self.assertEqual([next_met(table, XY, 0, filling), met_numbered(table, XY, 0, 1), met_ahead(table, XY, 0, filling)], [None, None, 0])

    def test_tables_of_no_name(self):
        even = (0, [[1], [0]], [True, False])
        for width in (0, 3, 63, 64):
            met = width % 2 == 0
            self.assertIs(is_met(even, [], width, []), met)
            self.assertEqual([first_met(even, [], width), last_met(even, [], width), met_numbered(even, [], width, 0)], [[] if met else None] * 3)
            self.assertEqual([all_met(even, [], width), ones_met(even, [], width)], [[[]] if met else [], []])
            self.assertEqual([next_met(even, [], width, []), met_ahead(even, [], width, []), met_numbered(even, [], width, 1)], [None, 0, None])

    def test_tables_that_take_nothing_and_all(self):
        for many in (1, 6):
            nothing, whole = (many, [[0] * 2 ** many], [False]), (many, [[0] * 2 ** many], [True])
            names = NAMES[:many]
            none, full = [(name, 0) for name in names], [(name, TOP) for name in names]
            self.assertEqual([first_met(nothing, names, 64), last_met(nothing, names, 64), all_met(nothing, names, 64)], [None, None, []])
            self.assertEqual([met_ahead(nothing, names, 64, full), next_met(nothing, names, 64, none)], [0, None])
            self.assertEqual(ones_met(nothing, names, 64), [[0] * 64] * many)
            self.assertEqual([first_met(whole, names, 64), last_met(whole, names, 64)], [none, full])
            self.assertEqual(met_ahead(whole, names, 64, full), 2 ** (64 * many) - 1)
            self.assertEqual(ones_met(whole, names, 64), [[2 ** (64 * many - 1)] * 64] * many)
            self.assertEqual(next_met(whole, names, 64, none), none[:-1] + [(names[-1], 1)])
            self.assertIsNone(met_numbered(whole, names, 64, 2 ** (64 * many)))

    def test_order_is_by_the_first_name_for_which_words_differ(self):
        apart = table_of(("not", ("same", "x", "y")))
        self.assertEqual([first_met(apart, XY, 3), last_met(apart, XY, 3)], [[("x", 0), ("y", 1)], [("x", 7), ("y", 6)]])
        self.assertEqual(next_met(apart, XY, 3, [("x", 0), ("y", 7)]), [("x", 1), ("y", 0)])
        self.assertEqual(met_numbered(apart, XY, 3, 7), [("x", 1), ("y", 0)])
        self.assertEqual(met_ahead(apart, XY, 3, [("x", 2), ("y", 2)]), 16)

    def test_the_width_64(self):
        self.assertEqual(last_met(BELOW, XY, 64), [("x", TOP - 1), ("y", TOP)])
        self.assertEqual(first_met(BELOW, XY, 64), [("x", 0), ("y", 1)])
        self.assertEqual(met_ahead(BELOW, XY, 64, [("x", 5), ("y", 0)]), 5 * TOP - 10)
        self.assertEqual(met_numbered(BELOW, XY, 64, TOP), [("x", 1), ("y", 2)])
        self.assertEqual(next_met(BELOW, XY, 64, [("x", 3), ("y", TOP)]), [("x", 4), ("y", 5)])
        self.assertIsNone(next_met(BELOW, XY, 64, [("x", TOP - 1), ("y", TOP)]))
        self.assertEqual(sum(ones_met(BELOW, XY, 64)[1][63:]), 2 ** 126 + 2 ** 125 - 2 ** 62)
        product = table_of(("same", ("times", 3, "x"), ("plus", "y", "z")))
        names = ["x", "y", "z"]
        for number in (0, 1, 2 ** 64, 2 ** 127 + 12345, 2 ** 128 - 1):
            filling = met_numbered(product, names, 64, number)
            x, y, z = [word for _, word in filling]
            self.assertEqual([(3 * x - y - z) % 2 ** 64, x, y], [0, number >> 64, number % 2 ** 64])
            self.assertEqual(met_ahead(product, names, 64, filling), number)
            self.assertIs(is_met(product, names, 64, filling), True)
        self.assertIsNone(met_numbered(product, names, 64, 2 ** 128))

    def test_six_names_and_200_stands(self):
        table = Maker(3).table(6, 200)
        many = met_ahead(table, NAMES, 64, last_met(table, NAMES, 64)) + 1
        self.assertGreater(many, 10 ** 114)
        for number in (0, many // 3, many - 1):
            filling = met_numbered(table, NAMES, 64, number)
            self.assertIs(is_met(table, NAMES, 64, filling), True)
            self.assertEqual(met_ahead(table, NAMES, 64, filling), number)
        self.assertIsNone(met_numbered(table, NAMES, 64, many))
        self.assertIsNone(met_numbered(table, NAMES, 64, 10 ** 120 - 1))
        later = next_met(table, NAMES, 64, met_numbered(table, NAMES, 64, 10 ** 113))
        self.assertEqual(met_ahead(table, NAMES, 64, later), 10 ** 113 + 1)
        ones = ones_met(table, NAMES, 64)
        self.assertTrue(all(0 < count < many for counts in ones for count in counts))

    def test_500_fillings_and_501(self):
        def below(number):
            return table_of(("below", "x", number))

        found = all_met(below(500), ["x"], 64)
        self.assertEqual(found, [[("x", word)] for word in range(500)])
        for width in (9, 64):
            error = raised_by(all_met, below(501), ["x"], width)
            self.assertEqual([error.__class__, error.value], [TooMany, 501])
        error = raised_by(all_met, BELOW, XY, 64)
        self.assertEqual([error.__class__, error.value], [TooMany, 2 ** 127 - 2 ** 63])
        sparse = (6, [[0, 1] + [2] * 62, [1] + [2] * 63, [2] * 64], [True, True, False])
        self.assertEqual(all_met(sparse, NAMES, 64), [[("a", word)] + [(name, 0) for name in NAMES[1:]] for word in
                                                      sorted([0] + [2 ** place for place in range(64)])])
        self.assertIsNone(raised_by(first_met, below(501), ["x"], 64))

    def test_wrong_arguments(self):
        filling = [("x", 1), ("y", 2)]
        for function in FUNCTIONS:
            rest = others(function, None, None)
            for table in (None, [2, [[0] * 4], [True]], (2, [[0] * 4], [1]), (7, [[0] * 128], [True])):
                error = raised_by(function, table, None, None, *rest)
                self.assertIs(error.__class__, InvalidTable)
                self.assertIs(error.value, table)
            for names in (["x"], ["x", "y", "z"], ["y", "x"], ["x", "x"], ("x", "y"), None, [], ["x", "all"], ["x", 1]):
                error = raised_by(function, BELOW, names, None, *rest)
                self.assertIs(error.__class__, InvalidNames)
                self.assertIs(error.value, names)
            for width in (65, -1, True, None, [3]):
                error = raised_by(function, BELOW, XY, width, *rest)
                self.assertIs(error.__class__, InvalidWidth)
                self.assertIs(error.value, width)
        for function in (is_met, next_met, met_ahead):
            for wrong in (None, [], filling[:1], filling[::-1], tuple(filling), [("x", 1), ("y", 4)], [("x", 1), ("y", True)],
                          [("x", 1), ("z", 2)], filling + [("z", 0)], [["x", 1], ["y", 2]], [("x", -1), ("y", 0)]):
                error = raised_by(function, BELOW, XY, 2, wrong)
                self.assertIs(error.__class__, InvalidFilling)
                self.assertIs(error.value, wrong)
        for number in (-1, True, None, "0", [0], 0 - 10 ** 30):
            error = raised_by(met_numbered, BELOW, XY, 2, number)
            self.assertIs(error.__class__, InvalidNumber)
            self.assertIs(error.value, number)
        # Refused before the list that would be too long is thought of.
        self.assertIs(raised_by(all_met, BELOW, XY, 65).__class__, InvalidWidth)


if __name__ == "__main__":
    unittest.main()
