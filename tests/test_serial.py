"""Promises 70 to 72: serial machines."""

import itertools
import unittest

from howeverwide.errors import InvalidMachine, InvalidWidth, InvalidWord, Unlike
from howeverwide.serial import chained, is_machine, machine_table, tell_alike, told_words
from howeverwide.tables import is_least
from tests.support import POOL, Maker, have_new_lists, kept, plain_letters, plainly_takes, raised_by

KEEP, DOUBLE = (1, 1, 0, [[0, 0, 0]], [[0, 1, 0]]), (1, 1, 0, [[0, 1, 0], [0, 1, 0]], [[0, 0, 0], [1, 1, 0]])
HALF = (1, 1, 1, [[0, 0, 0]], [[0, 1, 0]])


def plainly_told(machine, width, words):
    """The words that a machine tells, by running it as the document says."""
    many, told, ahead, steps, tells = machine
    stand, letters = 0, []
    for sign in plain_letters(width, words) + [2 ** many] * ahead:
        letters.append(tells[stand][sign])
        stand = steps[stand][sign]
    letters = letters[ahead:]
    return [sum(letter // 2 ** number % 2 * 2 ** place for place, letter in enumerate(letters)) for number in range(told)]


def made_machine(seed, many=None, told=None, ahead=None, stands=None):
    random = Maker(seed).random
    many = random.randint(0, 2) if many is None else many
    told = random.randint(1, 2) if told is None else told
    ahead = random.randint(0, 3) if ahead is None else ahead
    stands = random.randint(1, 4) if stands is None else stands
    steps = [[random.randrange(stands) for _ in range(2 ** many + 1)] for _ in range(stands)]
    return many, told, ahead, steps, [[random.randrange(2 ** told) for _ in range(2 ** many + 1)] for _ in range(stands)]


def all_words(width, many):
    return [list(words) for words in itertools.product(range(2 ** width), repeat=many)]


def shifting(bits):
    """A machine that tells a word moved down by so many bits, as many ahead."""
    return 1, 1, bits, [[0, 0, 0]], [[0, 1, 0]]


class ToldWordsTest(unittest.TestCase):

    def test_against_a_plain_running(self):
        for seed in range(150):
            machine = made_machine(seed)
            before = kept(machine)
            self.assertIs(is_machine(machine), True)
            for width in range(4 if machine[0] < 2 else 3):
                for words in all_words(width, machine[0]):
                    told = told_words(machine, width, words)
                    self.assertEqual(told, plainly_told(machine, width, words))
                    self.assertTrue(have_new_lists([told, told_words(machine, width, words)], [machine, words]))
            self.assertEqual(machine, before)

    def test_the_edges(self):
        high = 2 ** 64 - 1
        self.assertEqual([told_words(KEEP, 64, [high]), told_words(DOUBLE, 64, [high]), told_words(HALF, 64, [high])],
                         [[high], [high - 1], [2 ** 63 - 1]])
        self.assertEqual([told_words(machine, 0, [0]) for machine in (KEEP, DOUBLE, HALF, shifting(8))], [[0]] * 4)
        self.assertEqual([told_words(shifting(8), width, [2 ** width - 1]) for width in (3, 8, 9, 12)], [[0], [0], [1], [15]])
        nothing = (0, 2, 1, [[1, 0], [0, 0]], [[1, 3], [2, 0]])
        self.assertEqual(told_words(nothing, 4, []), plainly_told(nothing, 4, []))
        four = (4, 1, 0, [[0] * 17], [[letter.bit_count() % 2 for letter in range(16)] + [0]])
        self.assertEqual(told_words(four, 3, [1, 3, 5, 7]), [1 ^ 3 ^ 5 ^ 7])
        # What is told at a letter may be told at the end, too: this machine tells where the words end.
        ends = (1, 1, 1, [[0, 0, 0]], [[0, 0, 1]])
        self.assertEqual([told_words(ends, width, [0]) for width in range(5)], [[0], [1], [2], [4], [8]])

    def test_errors(self):
        for width in (-1, 65, True, None, "3"):
            error = raised_by(told_words, KEEP, width, None)
            self.assertEqual([error.__class__, error.value], [InvalidWidth, width])
        for words in (None, (1,), [], [1, 1], [8], [-1], [True], ["1"], {}, 1):
            error = raised_by(told_words, KEEP, 3, words)
            self.assertIsInstance(error, InvalidWord)
            self.assertIs(error.value, words)
        for value in POOL.wrong("machine"):
            for function, more in ((told_words, [None, None]), (machine_table, []), (tell_alike, [None]), (chained, [None])):
                error = raised_by(function, value, *more)
                self.assertIsInstance(error, InvalidMachine)
                self.assertIs(error.value, value)


class IsMachineTest(unittest.TestCase):

    def test_bent_machines(self):
        for seed in range(40):
            machine = made_machine(seed)
            many, told, ahead, steps, tells = machine
            for bent in ((many + 1, told, ahead, steps, tells), (5, told, ahead, steps, tells), (-1, told, ahead, steps, tells),
                         (many, 0, ahead, steps, tells), (many, 3, ahead, steps, tells), (many, told, -1, steps, tells),
                         (many, told, True, steps, tells), (many, True, ahead, steps, tells), (many, told, None, steps, tells),
                         (many, told, ahead, steps + steps[:1], tells), (many, told, ahead, steps, tells + tells[:1]), (many, told, ahead, [], []),
                         (many, told, ahead, tuple(steps), tells), (many, told, ahead, steps, tuple(tells)), (many, told, ahead, steps),
                         (many, told, ahead, [tuple(step) for step in steps], tells), (many, told, ahead, steps, tells, []),
                         (many, told, ahead, steps, [letters[:-1] for letters in tells]), list(machine)):
                self.assertIs(is_machine(bent), False, bent)
            for place in range(len(steps)):
                for sign in range(2 ** many + 1):
                    for wrong in (-1, True, None, "0", len(steps)):
                        self.assertIs(is_machine((many, told, ahead, self.bent(steps, place, sign, wrong), tells)), False)
                    for wrong in (-1, False, None, "0", 2 ** told):
                        self.assertIs(is_machine((many, told, ahead, steps, self.bent(tells, place, sign, wrong))), False)

    def bent(self, lists, place, sign, item):
        return lists[:place] + [lists[place][:sign] + [item] + lists[place][sign + 1:]] + lists[place + 1:]

    def test_the_edges(self):
        for many in range(5):
            for told in (1, 2):
                for ahead in (0, 8, 9, 10 ** 29):
                    self.assertIs(is_machine((many, told, ahead, [[0] * (2 ** many + 1)], [[2 ** told - 1] * (2 ** many + 1)])), True)
        for many, told in ((5, 1), (4, 3)):
            self.assertIs(is_machine((many, told, 0, [[0] * (2 ** many + 1)], [[0] * (2 ** many + 1)])), False)
        for value, kinds in POOL.entries:
            self.assertIs(is_machine(value), "machine" in kinds)


class MachineTableTest(unittest.TestCase):

    def test_against_all_words(self):
        for seed in range(120):
            machine = made_machine(seed, ahead=seed % 4)
            before = kept(machine)
            table = machine_table(machine)
            many, told = machine[:2]
            self.assertEqual([table[0], is_least(table), machine], [many + told, True, before])
            self.assertTrue(have_new_lists([table, machine_table(machine)], machine))
            for width in range(4 if many + told < 3 else 3 if many + told < 4 else 2):
                for words in all_words(width, many + told):
                    wanted = plainly_told(machine, width, words[:many]) == words[many:]
                    self.assertIs(plainly_takes(table, plain_letters(width, words)), wanted)

    def test_far_widths(self):
        for machine in (DOUBLE, HALF, shifting(5), made_machine(3, 1, 1, 8, 3), made_machine(4, 2, 2, 3, 3), made_machine(5, 4, 2, 1, 2)):
            table = machine_table(machine)
            random = Maker(7).random
            for width in (4, 7, 12, 30):
                words = [random.randrange(2 ** width) for _ in range(machine[0])]
                told = told_words(machine, width, words)
                self.assertIs(plainly_takes(table, plain_letters(width, words + told)), True)
                for number in range(machine[1]):
                    other = told[:number] + [told[number] ^ 1 << random.randrange(width)] + told[number + 1:]
                    self.assertIs(plainly_takes(table, plain_letters(width, words + other)), False)

    def test_by_hand(self):
        self.assertEqual(machine_table(KEEP), (2, [[0, 1, 1, 0], [1, 1, 1, 1]], [True, False]))
        # Half of a word: each bit that is told is the next one that is read, and the last one is 0.
        self.assertEqual(machine_table(HALF)[0], 2)
        self.assertEqual(len(machine_table(shifting(8))[1]), 2 ** 9)


class AlikeTest(unittest.TestCase):

    def test_against_all_words(self):
        told = {True: 0, False: 0}
        for seed in range(200):
            many, ahead = seed % 2, seed % 3
            one = made_machine(seed, many, 1, ahead, 2)
            other = made_machine(seed + 1000, many, 1, (seed // 3) % 3, 2)
            same = tell_alike(one, other)
            told[same] += 1
            alike = all(plainly_told(one, width, words) == plainly_told(other, width, words)
                        for width in range(6) for words in all_words(width, many))
            # Machines of two stands each, that read at most two bits ahead, part early if they do.
            self.assertIs(same, alike)
            self.assertIs(tell_alike(other, one), same)
            self.assertIs(tell_alike(one, one), True)
        self.assertGreater(min(told.values()), 5)

    def test_unlike_bits_ahead(self):
        late = (1, 1, 1, [[1, 2, 0], [1, 2, 1], [1, 2, 2]], [[0, 0, 0], [0, 0, 0], [1, 1, 1]])
        self.assertEqual([told_words(late, 4, [word]) for word in (0, 5, 15)], [[0], [5], [15]])
        self.assertIs(tell_alike(KEEP, late), True)
        self.assertIs(tell_alike(late, HALF), False)
        self.assertIs(tell_alike(KEEP, HALF), False)
        slow = (1, 1, 0, [[0, 1, 0], [0, 1, 1]], [[0, 1, 1], [0, 1, 0]])
        self.assertIs(tell_alike(KEEP, slow), True)

    def test_errors(self):
        for other in ((2, 1, 0, [[0] * 5], [[0] * 5]), (1, 2, 0, [[0] * 3], [[0] * 3]), (0, 1, 0, [[0, 0]], [[0, 0]])):
            error = raised_by(tell_alike, KEEP, other)
            self.assertIsInstance(error, Unlike)
            self.assertIs(error.value, other)
        for value in POOL.wrong("machine")[:60]:
            for function in (tell_alike, chained):
                error = raised_by(function, KEEP, value)
                self.assertIsInstance(error, InvalidMachine)
                self.assertIs(error.value, value)


class ChainedTest(unittest.TestCase):

    def test_against_a_plain_running_of_both(self):
        for seed in range(120):
            one = made_machine(seed, ahead=seed % 3)
            other = made_machine(seed + 1000, many=one[1], ahead=seed // 3 % 3)
            before = kept((one, other))
            both = chained(one, other)
            self.assertIs(is_machine(both), True)
            self.assertEqual(both[:3], (one[0], other[1], one[2] + other[2]))
            self.assertTrue(have_new_lists([both, chained(one, other)], [one, other]))
            self.assertEqual((one, other), before)
            for width in range(5 if one[0] < 2 else 4):
                for words in all_words(width, one[0]):
                    wanted = plainly_told(other, width, plainly_told(one, width, words))
                    self.assertEqual(plainly_told(both, width, words), wanted, (one, other))

    def test_what_keeps_changes_nothing(self):
        for seed in range(40):
            machine = made_machine(seed, 1, 1)
            self.assertIs(tell_alike(chained(KEEP, machine), machine), True)
            self.assertIs(tell_alike(chained(machine, KEEP), machine), True)
        self.assertEqual(chained(HALF, HALF)[2], 2)
        self.assertIs(tell_alike(chained(chained(HALF, HALF), HALF), shifting(3)), True)
        self.assertIs(tell_alike(chained(HALF, chained(HALF, HALF)), chained(chained(HALF, HALF), HALF)), True)
        self.assertIs(tell_alike(chained(DOUBLE, HALF), chained(HALF, DOUBLE)), False)
        self.assertEqual([told_words(chained(shifting(8), shifting(8)), width, [2 ** width - 1]) for width in (0, 9, 16, 17, 20)],
                         [[0], [0], [0], [1], [15]])

    def test_errors(self):
        two = (2, 1, 0, [[0] * 5], [[0] * 5])
        for one, other in ((KEEP, two), (two, two), ((1, 2, 0, [[0] * 3], [[0] * 3]), KEEP), (KEEP, (0, 1, 0, [[0, 0]], [[0, 0]]))):
            error = raised_by(chained, one, other)
            self.assertIsInstance(error, Unlike)
            self.assertIs(error.value, other)
        self.assertEqual(chained(two, KEEP)[:3], (2, 1, 0))


if __name__ == "__main__":
    unittest.main()
