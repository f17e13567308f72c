"""Promises 73 to 76: machines that do a claim."""

import itertools
import unittest

from howeverwide.building import table_of
from howeverwide.errors import InvalidClaim, InvalidMachine, InvalidNames, InvalidNumber, TooMany, Unlike
from howeverwide.machines import barring_ring, bits_ahead, is_barring_ring, is_not_enough, machine_for, not_enough, undone, untold
from howeverwide.serial import is_machine, machine_table
from howeverwide.tables import stand_behind
from howeverwide.words import free_names
from tests.support import POOL, Maker, all_rows, fillings, have_new_lists, kept, plain_letters, plainly_holds, plainly_takes, raised_by
from tests.test_building import ring
from tests.test_serial import HALF, KEEP, all_words, made_machine, plainly_told, shifting

ADDED, HALVED = ("same", "y", ("plus", "x", "z")), ("same", "y", ("down", 1, "x"))
LESSER = ("or", ("and", ("below", "x", "z"), ("same", "y", "x")), ("and", ("not", ("below", "x", "z")), ("same", "y", "z")))
BIG = ("and", ring(43, 1), ring(47, 1))
ALL = [bits_ahead, barring_ring, machine_for, untold]


def others(claim, wanted):
    return [name for name in free_names(claim) if name not in wanted]


def chosen(width, filling, claim, wanted):
    """All fillings of the wanted names with which the given ones meet a claim."""
    return [choice for choice in fillings(wanted, width) if plainly_holds(width, claim, dict(filling + choice))]


def by_rows(names, width):
    return sorted(fillings(names, width), key=lambda filling: plain_letters(width, [word for _, word in filling]))


def plainly_untold(claim, wanted, most):
    for width in range(most + 1):
        for filling in by_rows(others(claim, wanted), width):
            many = len(chosen(width, filling, claim, wanted))
            if many != 1:
                return width, filling, min(many, 2)
    return None


def letters(width, filling, names):
    return plain_letters(width, [dict(filling)[name] for name in names])


def shows(claim, wanted, ahead, place, one, other):
    """Whether two fillings show that so many bits ahead are not enough, as the document says it."""
    given = others(claim, wanted)
    for width, filling in (one, other):
        if width <= place + ahead or not plainly_holds(width, claim, dict(filling)):
            return False
    first, last = [letters(width, filling, wanted)[place] for width, filling in (one, other)]
    ahead_of = [letters(width, filling, given)[:place + ahead + 1] for width, filling in (one, other)]
    return first != last and ahead_of[0] == ahead_of[1]


def plainly_enough(claim, wanted, ahead, most):
    """Whether so many bits ahead are enough as far as can be told by the fillings of small widths."""
    given = others(claim, wanted)
    seen = {}
    for width in range(most + 1):
        for filling in fillings(free_names(claim), width):
            if not plainly_holds(width, claim, dict(filling)):
                continue
            row, told = letters(width, filling, given), letters(width, filling, wanted)
            for place in range(width):
                key = (place, tuple(row[:place + ahead + 1]), width <= place + ahead)
                if key[2]:
                    key += (width,)
                if seen.setdefault(key, told[place]) != told[place]:
                    return False
    return True


def choice(condition, then, otherwise):
    return ("or", ("and", condition, ("same", "y", then)), ("and", ("not", condition), ("same", "y", otherwise)))


def told_by(machine, names, wanted):
    """The claim that a machine does."""
    return ("told", machine_table(machine), names + wanted)


def made_told(seeds):
    """Claims that tell wanted words, each with these."""
    for seed in seeds:
        maker = Maker(seed, ("a", "x"))
        kind = seed % 4
        if kind == 0:
            claim = ("same", "y", maker.expression(2))
            yield claim, ["y"]
        elif kind == 1:
            machine = made_machine(seed, maker.random.randint(0, 2), maker.random.randint(1, 2), maker.random.randint(0, 2), maker.random.randint(1, 3))
            yield told_by(machine, ["a", "x"][:machine[0]], ["b", "y"][:machine[1]]), ["b", "y"][:machine[1]]
        elif kind == 2:
            condition = maker.random.choice([("below", "a", "x"), ("top", "x"), ("bit", 1, "x"), ("under", "x", 1), ("same", "a", ("up", 1, "x"))])
            yield choice(condition, maker.expression(1), maker.expression(1)), ["y"]
        else:
            yield ("and", ("same", "b", maker.expression(1)), ("same", "y", ("plus", "b", maker.expression(1)))), ["b", "y"]


def good_ones(seeds):
    for claim, wanted in made_told(seeds):
        if raised_by(table_of, claim) is None and len(free_names(claim)) < 5 and len(table_of(claim)[1]) < 40:
            yield claim, wanted


class UntoldTest(unittest.TestCase):

    def test_against_all_fillings_of_small_widths(self):
        found = {0: 0, 2: 0}
        for seed in range(120):
            claim = Maker(seed, ("x", "y", "z")[:2 + seed % 2]).claim(1, 0)
            names = free_names(claim)
            for wanted in [[name] for name in names] + [list(pair) for pair in itertools.combinations(names, 2)]:
                if raised_by(table_of, claim) is not None:
                    continue
                before = kept(claim)
                told = untold(claim, wanted)
                most = 3 if len(names) < 3 else 2
                self.assertEqual(None if told is not None and told[0] > most else told, plainly_untold(claim, wanted, most), (claim, wanted))
                self.assertTrue(have_new_lists([told, untold(claim, wanted)], [claim, wanted]))
                self.assertEqual(claim, before)
                if told is not None:
                    found[told[2]] += 1
                    error = raised_by(bits_ahead, claim, wanted)
                    self.assertIsInstance(error, Unlike)
                    self.assertIs(error.value, claim)
        self.assertGreater(min(found.values()), 40)

    def test_claims_that_tell(self):
        many = 0
        for claim, wanted in good_ones(range(200, 280)):
            self.assertIsNone(untold(claim, wanted))
            self.assertIsNone(plainly_untold(claim, wanted, 2))
            many += 1
        self.assertGreater(many, 60)

    def test_the_edges(self):
        self.assertEqual(untold(("same", "x", 3), ["x"]), None)
        self.assertEqual(untold(("and", ("same", "x", 3), ("same", "y", "x")), ["x", "y"]), None)
        self.assertEqual(untold(("same", "x", "x"), ["x"]), (1, [], 2))
        self.assertEqual(untold(("below", "x", "x"), ["x"]), (0, [], 0))
        self.assertEqual(untold(("same", "x", "y"), ["x", "y"]), (1, [], 2))
        # By rows the word 2 comes ahead of the word 1.
        two = ("and", ("same", 4, 0), ("not", ("same", 2, 0)), ("not", ("same", "x", 0)), ("not", ("same", "x", 3)))
        self.assertEqual(untold(("or", two, ("same", "y", "x")), ["y"]), (2, [("x", 2)], 2))
        self.assertEqual(untold(("and", ("not", two), ("same", "y", "x")), ["y"]), (2, [("x", 2)], 0))
        # Two choices that come together ahead of the end.
        three = ("and", ("same", 8, 0), ("not", ("same", 4, 0)))
        merged = ("or", ("and", ("not", three), ("same", "y", 0)), ("and", three, ("or", ("same", "y", 1), ("same", "y", 2))))
        self.assertEqual(untold(merged, ["y"]), (3, [], 2))
        late = ("and", ("same", "y", "x"), ("not", ring(60, 0, 59)))
        self.assertEqual(untold(late, ["y"]), (59, [("x", 0)], 0))
        self.assertEqual(untold(("or", ("same", "y", "x"), ring(60, 0, 59)), ["y"]), (59, [("x", 0)], 2))


class EnoughTest(unittest.TestCase):

    def test_against_all_fillings_of_small_widths(self):
        found = set()
        for claim, wanted in good_ones(range(300, 380)):
            before = kept(claim)
            bits = bits_ahead(claim, wanted)
            found.add(bits)
            most = 4 if len(free_names(claim)) < 3 else 3
            for ahead in range(4):
                enough = bits is not None and ahead >= bits
                against = not_enough(claim, wanted, ahead)
                self.assertIs(against is None, enough)
                if enough:
                    self.assertIs(plainly_enough(claim, wanted, ahead, most), True)
                else:
                    self.assertIs(shows(claim, wanted, ahead, *against) or against[1][0] > 6, True)
                    self.assertIs(is_not_enough(claim, wanted, ahead, against), True)
                    self.assertTrue(have_new_lists([against, not_enough(claim, wanted, ahead)], [claim, wanted]))
                if not plainly_enough(claim, wanted, ahead, most):
                    self.assertIsNotNone(against)
            self.assertEqual(claim, before)
        self.assertLessEqual({None, 0, 1, 2}, found)

    def test_bits_ahead_by_hand(self):
        for k in range(9):
            self.assertEqual(bits_ahead(("same", "y", ("down", k, "x")), ["y"]), k)
            self.assertEqual(bits_ahead(("same", "y", ("up", k, "x")), ["y"]), 0)
            self.assertEqual(bits_ahead(told_by(shifting(k), ["x"], ["y"]), ["y"]), k)
        self.assertEqual(bits_ahead(("same", "y", ("minus", ("times", -3, "x"), ("both", "x", "z"))), ["y"]), 0)
        self.assertEqual(bits_ahead(("same", "y", ("plus", ("down", 2, "x"), ("down", 1, "z"))), ["y"]), 2)
        self.assertEqual(bits_ahead(("same", "x", 5), ["x"]), 0)
        self.assertEqual(bits_ahead(choice(("top", "x"), 0, 1), ["y"]), None)
        self.assertEqual(bits_ahead(("and", ("same", "y", ("down", 1, "x")), ("same", "z", ("down", 3, "x"))), ["y", "z"]), 3)
        # Where the words end sooner this is told, too: so at the widths up to 3 nothing is missing.
        self.assertEqual(bits_ahead(choice(("same", 8, 0), ("turned", "x"), "x"), ["y"]), 3)

    def test_20_bits_ahead(self):
        for ahead in (0, 5, 20):
            against = not_enough(LESSER, ["y"], ahead)
            self.assertIs(is_not_enough(LESSER, ["y"], ahead, against), True)
            self.assertGreater(min(against[1][0], against[2][0]), against[0] + ahead)
        self.assertIsNone(not_enough(HALVED, ["y"], 10 ** 29))
        self.assertIsNone(not_enough(ADDED, ["y"], 0))

    def test_is_not_enough_against_its_words(self):
        told = {True: 0, False: 0}
        for claim, wanted in ((HALVED, ["y"]), (("same", "y", ("down", 2, "x")), ["y"]), (choice(("top", "x"), 0, 1), ["y"]),
                              (("same", ("plus", "y", 1), "x"), ["y"])):
            sides = [(width, filling) for width in range(4) for filling in fillings(free_names(claim), width)]
            random = Maker(3).random
            for _ in range(900):
                place, ahead = random.randint(0, 2), random.randint(0, 2)
                one, other = random.choice(sides), random.choice(sides)
                if random.random() < 0.7:
                    one, other = [random.choice([side for side in sides if side[0] == width and plainly_holds(width, claim, dict(side[1]))])
                                  for width in (random.randint(1, 3), random.randint(1, 3))]
                wanted_answer = shows(claim, wanted, ahead, place, one, other)
                told[wanted_answer] += 1
                self.assertIs(is_not_enough(claim, wanted, ahead, (place, one, other)), wanted_answer)
        self.assertGreater(min(told.values()), 40)

    def test_any_value(self):
        good = (0, (2, [("x", 0), ("y", 0)]), (2, [("x", 2), ("y", 1)]))
        self.assertIs(is_not_enough(HALVED, ["y"], 0, good), True)
        for value, kinds in POOL.entries:
            self.assertIs(is_not_enough(HALVED, ["y"], 0, value), False)
            for place in range(3):
                bent = good[:place] + (value,) + good[place + 1:]
                if not (place == 0 and value == 0 and value is not False):
                    self.assertIs(is_not_enough(HALVED, ["y"], 0, bent), False, bent)
            for side in (1, 2):
                for part in (0, 1):
                    bent = list(good)
                    bent[side] = good[side][:part] + (value,) + good[side][part + 1:]
                    # At each width from 1 on, and 2 on for the other side, the same words are right.
                    right = part == 0 and "width" in kinds and value >= side
                    self.assertIs(is_not_enough(HALVED, ["y"], 0, tuple(bent)), right, bent)
        for bent in (list(good), good + (0,), good[:2], (0, list(good[1]), good[2]), (0, good[1] + (0,), good[2]), (True, *good[1:]), (-1, *good[1:]),
                     (0, (2, [("x", 0)]), good[2]), (0, (2, [("x", 1), ("y", 0)]), good[2]), (1, *good[1:])):
            self.assertIs(is_not_enough(HALVED, ["y"], 0, bent), False, bent)
        self.assertIs(is_not_enough(HALVED, ["y"], 1, good), False)
        wide = (0, (64, [("x", 0), ("y", 0)]), (64, [("x", 2), ("y", 1)]))
        self.assertIs(is_not_enough(HALVED, ["y"], 0, wide), True)
        wider = (0, (65, [("x", 0), ("y", 0)]), (64, [("x", 2), ("y", 1)]))
        self.assertIs(is_not_enough(HALVED, ["y"], 0, wider), False)
        self.assertIs(is_not_enough(HALVED, ["y"], 0, (0, wide[1], good[2])), True)


class RingTest(unittest.TestCase):

    GOOD = ([1], [0], ([1], [0], [(2, 0)]), ([0], [0], [(1, 0)]))

    def met(self, claim, wanted, pairs):
        """Whether letters of the given and of the wanted names meet a claim, read by its table."""
        names = free_names(claim)
        given = others(claim, wanted)
        row = []
        for given_letter, wanted_letter in pairs:
            bits = {name: given_letter // 2 ** number % 2 for number, name in enumerate(given)}
            bits.update({name: wanted_letter // 2 ** number % 2 for number, name in enumerate(wanted)})
            row.append(sum(bits[name] * 2 ** number for number, name in enumerate(names)))
        return plainly_takes(table_of(claim), row)

    def test_exactly_one_of_a_ring_and_a_number(self):
        rings = 0
        for claim, wanted in good_ones(range(500, 640)):
            before = kept(claim)
            bits, found = bits_ahead(claim, wanted), barring_ring(claim, wanted)
            self.assertIs(found is None, bits is not None)
            self.assertEqual(claim, before)
            if found is None:
                continue
            rings += 1
            self.assertIs(is_barring_ring(claim, wanted, found), True)
            self.assertTrue(have_new_lists([found, barring_ring(claim, wanted)], [claim, wanted]))
            head, turn, one, other = found
            self.assertGreater(len(turn), 0)
            self.assertNotEqual(one[0], other[0])
            for many in range(4):
                for first, again, tail in (one, other):
                    pairs = list(zip(head + turn * many, first + again * many)) + tail
                    self.assertIs(self.met(claim, wanted, pairs), True)
        self.assertGreater(rings, 15)

    def test_longer_rings(self):
        """Rings to which a longer way leads, and that are longer, beside pairs that come to an end."""
        for size in (2, 3, 5):
            for k in (0, 1, 3):
                for late in (0, 2):
                    told = ring(size, 0, size - 1)
                    turned = ("or", ("and", told, ("same", "y", "x")), ("and", ("not", told), ("same", "y", ("unlike", "x", ("up", late, 1)))))
                    claim, wanted = ("and", ("same", "b", ("down", k, "x")), turned), ["b", "y"]
                    found = barring_ring(claim, wanted)
                    self.assertIsNone(bits_ahead(claim, wanted))
                    self.assertIs(is_barring_ring(claim, wanted, found), True)
                    head, turn, one, other = found
                    self.assertEqual(len(turn) % size, 0)
                    self.assertGreater(len(head), late)
                    for many in range(3):
                        for first, again, tail in (one, other):
                            self.assertIs(self.met(claim, wanted, list(zip(head + turn * many, first + again * many)) + tail), True)
                    bent = (head, turn, (one[0], [letter ^ 2 for letter in one[1]], one[2]), other)
                    self.assertIs(is_barring_ring(claim, wanted, bent), False)
                    for ahead in (0, 2, 7):
                        self.assertIs(shows(claim, wanted, ahead, *not_enough(claim, wanted, ahead)), True)

    def test_bent_rings(self):
        self.assertIs(is_barring_ring(LESSER, ["y"], self.GOOD), True)
        head, turn, one, other = self.GOOD
        for bent in ((head, [], (one[0], [], one[2]), (other[0], [], other[2])), (head, turn, one, one), (head, turn, other, other), (head, turn, one),
                     (head, turn, one, other, []), list(self.GOOD), (tuple(head), turn, one, other), (head, tuple(turn), one, other),
                     ([4], turn, one, other), ([-1], turn, one, other), ([True], turn, one, other), ([2], turn, one, other), (head, [1], one, other),
                     ([], turn, ([], *one[1:]), ([], *other[1:])), (head, turn, ([1], [1], [(2, 0)]), other), (head, turn, ([1, 0], [0], [(2, 0)]), other),
                     (head, turn, ([1], [0, 0], [(2, 0)]), other), (head, turn, ([1], [0], [[2, 0]]), other), (head, turn, ([1], [0], [(2, 0, 0)]), other),
                     (head, turn, ([1], [0], ((2, 0),)), other), (head, turn, ([1], [0], [(2, 2)]), other), (head, turn, ([1], [0], [(4, 0)]), other),
                     (head, turn, ([1], [0], [(2, 1)]), other), (head, turn, ([1], [0], []), other), (head, turn, ([2], [0], [(2, 0)]), other),
                     (head, turn, ([1], [0], [(True, 0)]), other), (head, turn, ([1], [0], [(2, False)]), other), (head, turn, [*one], other)):
            self.assertIs(is_barring_ring(LESSER, ["y"], bent), False, bent)
        # A longer ring, gone round twice, and tails of unlike lengths.
        self.assertIs(is_barring_ring(LESSER, ["y"], (head, turn * 3, (one[0], one[1] * 3, one[2]), (other[0], other[1] * 3, other[2]))), True)
        self.assertIs(is_barring_ring(LESSER, ["y"], (head + turn, turn, (one[0] + [0], *one[1:]), (other[0] + [0], *other[1:]))), True)
        self.assertIs(is_barring_ring(LESSER, ["y"], (head, turn, (one[0], one[1], [(0, 0), (3, 1), (2, 0)]), other)), True)
        self.assertIs(is_barring_ring(LESSER, ["y"], (head, turn, other, one)), True)

    def test_at_the_same_stand(self):
        # The words meet the claim however often the ring is gone round, but at its begin the table is elsewhere.
        claim = choice(("top", "x"), 0, 1)
        self.assertIs(is_barring_ring(claim, ["y"], ([0], [0], ([0], [0], [(1, 0)]), ([1], [0], [(0, 0)]))), True)
        found = barring_ring(claim, ["y"])
        table = table_of(claim)
        for first, again, _ in found[2:]:
            ahead = [given + 2 * wanted for given, wanted in zip(found[0], first)]
            around = [given + 2 * wanted for given, wanted in zip(found[1], again)]
            self.assertEqual(stand_behind(table, ahead), stand_behind(table, ahead + around))
        self.assertIs(is_barring_ring(claim, ["y"], ([0], [0, 1], ([0], [0, 0], [(1, 0)]), ([1], [0, 0], [(0, 0)]))), False)

    def test_any_value(self):
        for value, _ in POOL.entries:
            self.assertIs(is_barring_ring(LESSER, ["y"], value), False)
            self.assertIs(is_barring_ring(ADDED, ["y"], value), False)
            for place in range(4):
                bent = self.GOOD[:place] + (value,) + self.GOOD[place + 1:]
                self.assertIs(is_barring_ring(LESSER, ["y"], bent), place == 1 and value == [0] and not isinstance(value[0], bool), bent)
            for place in range(3):
                bent = self.GOOD[:3] + (self.GOOD[3][:place] + (value,) + self.GOOD[3][place + 1:],)
                # What the other side has come to behind the head is met without a tail, too.
                right = value == ([0], [0], [])[place] and repr(value) in ("[0]", "[]")
                self.assertIs(is_barring_ring(LESSER, ["y"], bent), right, bent)


class MachineTest(unittest.TestCase):

    def test_against_all_fillings_of_small_widths(self):
        made = 0
        for claim, wanted in good_ones(range(700, 800)):
            before = kept(claim)
            machine = machine_for(claim, wanted)
            bits = bits_ahead(claim, wanted)
            self.assertIs(machine is None, bits is None)
            self.assertEqual(claim, before)
            if machine is None:
                continue
            made += 1
            given = others(claim, wanted)
            self.assertIs(is_machine(machine), True)
            self.assertEqual(machine[:3], (len(given), len(wanted), bits))
            self.assertTrue(have_new_lists([machine, machine_for(claim, wanted)], [claim, wanted]))
            for width in range(4):
                for filling in fillings(given, width):
                    told = plainly_told(machine, width, [word for _, word in filling])
                    self.assertIs(plainly_holds(width, claim, dict(filling + list(zip(wanted, told)))), True)
            self.assertIsNone(undone(machine, claim, wanted))
        self.assertGreater(made, 50)

    def test_undone_against_all_fillings(self):
        found = {True: 0, False: 0}
        for seed in range(160):
            machine = made_machine(seed, 1 + seed % 2, 1, seed % 3, 2)
            given = ["a", "x"][:machine[0]]
            other = made_machine(seed + 1000, machine[0], 1, (seed // 2) % 3, 2) if seed % 4 else machine
            claim = told_by(other, given, ["y"])
            told = undone(machine, claim, ["y"])
            wanted = None
            for width in range(4):
                for filling in by_rows(given, width):
                    words = [word for _, word in filling]
                    if plainly_told(machine, width, words) != plainly_told(other, width, words) and wanted is None:
                        wanted = (width, filling)
            self.assertEqual(None if told is not None and told[0] > 3 else told, wanted)
            self.assertTrue(have_new_lists([told, undone(machine, claim, ["y"])], [claim, machine]))
            found[told is None] += 1
        self.assertGreater(min(found.values()), 20)

    def test_machines_that_read_further(self):
        late = (1, 1, 2, [[1, 2, 0], [3, 4, 1], [5, 6, 2], [3, 4, 7], [5, 6, 7], [3, 4, 7], [5, 6, 7], [0, 0, 0]], [[0] * 3 for _ in range(8)])
        self.assertIsInstance(undone(late, ("same", "y", "x"), ["y"]), tuple)
        slow = (1, 1, 3, [[0, 0, 0]], [[0, 1, 0]])
        self.assertIsNone(undone(slow, ("same", "y", ("down", 3, "x")), ["y"]))
        self.assertEqual(undone(slow, ("same", "y", ("down", 2, "x")), ["y"]), (3, [("x", 4)]))
        self.assertEqual(undone(shifting(1), ("same", "y", ("down", 2, "x")), ["y"]), (2, [("x", 2)]))
        # One machine for each claim that it does: its bits ahead are never fewer than those of the claim.
        for ahead in range(9):
            self.assertIsNone(undone(shifting(ahead), ("same", "y", ("down", ahead, "x")), ["y"]))
            machine = machine_for(("same", "y", ("down", ahead, "x")), ["y"])
            self.assertEqual(machine[2], ahead)
            for width in (0, 1, ahead, ahead + 1, 5):
                for words in all_words(min(width, 5), 1):
                    self.assertEqual(plainly_told(machine, min(width, 5), words), [words[0] // 2 ** ahead])

    def test_wanted_names_of_all_sorts(self):
        self.assertEqual(plainly_told(machine_for(("same", "x", 5), ["x"]), 4, []), [5])
        machine = machine_for(("and", ("same", "x", 5), ("same", "y", ("turned", "x"))), ["x", "y"])
        self.assertEqual([machine[:3], plainly_told(machine, 4, [])], [(0, 2, 0), [5, 10]])
        claim = ("and", ("same", "a", ("plus", ("plus", "b", "c"), ("plus", "e", "f"))), ("same", "d", ("unlike", "b", "f")))
        machine = machine_for(claim, ["a", "d"])
        self.assertEqual([machine[:3], plainly_told(machine, 6, [7, 9, 20, 30])], [(4, 2, 0), [66 % 64, 7 ^ 30]])
        # Given names may stand ahead of, between and behind the wanted ones.
        claim = ("and", ("same", "b", ("down", 1, "a")), ("same", "d", ("minus", "c", "e")))
        machine = machine_for(claim, ["b", "d"])
        self.assertEqual(plainly_told(machine, 4, [13, 2, 3]), [6, 15])
        self.assertIsNone(undone(machine, claim, ["b", "d"]))
        self.assertEqual(untold(claim, ["a", "c"]), (1, [("b", 0), ("d", 0), ("e", 0)], 2))

    def test_words_that_hang_on_the_end(self):
        top = ("or", ("and", ("top", "x"), ("same", "y", ("turned", 0))), ("and", ("not", ("top", "x")), ("same", "y", 0)))
        self.assertEqual([bits_ahead(top, ["y"]), machine_for(top, ["y"])], [None, None])
        last = ("and", ("iff", ("top", "y"), ("not", ("same", 1, 0))), ("same", ("up", 1, "y"), 0))
        self.assertEqual(bits_ahead(last, ["y"]), 1)
        machine = machine_for(last, ["y"])
        self.assertEqual([plainly_told(machine, width, []) for width in range(5)], [[0], [1], [2], [4], [8]])


class FromTheTopTest(unittest.TestCase):
    """Claims that tell what is told by going through the letters from the highest ones down: rings are no rare thing here."""

    def made_rule(self, seed):
        """For each of some places and each given letter, the letter that is told, and the place behind."""
        random = Maker(seed).random
        given, told, places = random.randint(0, 2), random.randint(1, 2), random.randint(1, 4)
        rule = [[(random.randrange(2 ** told), random.randrange(places)) for _ in range(2 ** given)] for _ in range(places)]
        return given, told, rule

    def claim_of(self, given, told, rule):
        """Going up from the lowest letter, each stand is the lot of the places that go on down to what was told."""
        lots, steps = [frozenset(range(len(rule)))], []
        for lot in lots:
            steps.append([])
            for letter in range(2 ** (given + told)):
                read, wanted = letter % 2 ** given, letter // 2 ** given
                ahead = frozenset(place for place, row in enumerate(rule) if row[read][0] == wanted and row[read][1] in lot)
                if ahead not in lots:
                    lots.append(ahead)
                steps[-1].append(lots.index(ahead))
        names, wanted = ["a", "x"][:given], ["b", "y"][:told]
        return ("told", (given + told, steps, [0 in lot for lot in lots]), names + wanted), wanted

    def told_down(self, rule, row):
        place, letters_told = 0, []
        for letter in reversed(row):
            told, place = rule[place][letter]
            letters_told.insert(0, told)
        return letters_told

    def test_bits_ahead_rings_and_machines(self):
        found = {}
        for seed in range(120):
            given, told, rule = self.made_rule(seed)
            claim, wanted = self.claim_of(given, told, rule)
            self.assertIsNone(untold(claim, wanted))
            bits, ring_found, machine = bits_ahead(claim, wanted), barring_ring(claim, wanted), machine_for(claim, wanted)
            found[bits] = found.get(bits, 0) + 1
            rows = [(row, self.told_down(rule, row)) for width in range(7 if given < 2 else 5) for row in all_rows(given, width)]
            for ahead in range(4):
                self.assertIs(not_enough(claim, wanted, ahead) is None, bits is not None and ahead >= bits)
                if not self.is_enough(rows, ahead):
                    self.assertTrue(bits is None or ahead < bits)
            if bits is None:
                self.assertIs(is_barring_ring(claim, wanted, ring_found), True)
                self.assertIsNone(machine)
                continue
            self.assertEqual([ring_found, machine[2], undone(machine, claim, wanted)], [None, bits, None])
            for row, letters_told in rows:
                words = [sum(letter // 2 ** number % 2 * 2 ** place for place, letter in enumerate(row)) for number in range(given)]
                self.assertEqual(plain_letters(len(row), plainly_told(machine, len(row), words)), letters_told)
        self.assertLessEqual({None, 0, 1, 2}, set(found))

    def is_enough(self, rows, ahead):
        seen = {}
        for row, told in rows:
            for place, letter in enumerate(told):
                end = len(row) if len(row) <= place + ahead else None
                if seen.setdefault((place, tuple(row[:place + ahead + 1]), end), letter) != letter:
                    return False
        return True


class ErrorsTest(unittest.TestCase):

    CALLS = [(untold, []), (not_enough, [0]), (is_not_enough, [0, None]), (bits_ahead, []), (barring_ring, []), (is_barring_ring, [None]), (machine_for, [])]

    def refused(self, error, function, *arguments):
        told = raised_by(function, *arguments)
        self.assertIs(told.__class__, error, (function.__name__, arguments))
        return told.value

    def test_claims_and_wanted_names(self):
        for wrong in POOL.wrong("claim")[:60]:
            for function, more in self.CALLS:
                self.assertIs(self.refused(InvalidClaim, function, wrong, None, *more), wrong)
            self.assertIs(self.refused(InvalidClaim, undone, HALF, wrong, None), wrong)
        many = ("same", "a", ("plus", ("plus", ("plus", "b", "c"), ("plus", "d", "e")), "f"))
        for claim, wrong in [(ADDED, wrong) for wrong in (None, [], ["w"], ["w", "y"], ["y", "x"], ["x", "x"], ("y",), ["x", "y", "z"], "y", ["y", None], {}, [1])] + \
                            [(many, ["a"]), (("some", "y", ADDED), ["y"]), (("and", BIG, ADDED), ["w"])]:
            for function, more in self.CALLS:
                self.assertIs(self.refused(InvalidNames, function, claim, wrong, *[None for _ in more]), wrong)
            self.assertIs(self.refused(InvalidNames, undone, HALF, claim, wrong), wrong)
        self.assertIsNone(untold(("and", many, ("same", "b", "c")), ["a", "b"]))

    def test_bits_and_machines(self):
        for claim in (HALVED, ("below", "x", "y"), ("and", BIG, HALVED)):
            for wrong in (-1, True, None, "3"):
                self.assertIs(self.refused(InvalidNumber, not_enough, claim, ["y"], wrong), wrong)
                self.assertIs(self.refused(InvalidNumber, is_not_enough, claim, ["y"], wrong, None), wrong)
        for wrong in POOL.wrong("machine")[:60]:
            self.assertIs(self.refused(InvalidMachine, undone, wrong, None, None), wrong)

    def test_claims_that_do_not_tell(self):
        for claim in (("below", "x", "y"), ("same", ("times", 2, "y"), "x"), ("or",) + (("same", "y", "x"),) * 2 + (ring(2, 0, 1),)):
            for function, more in self.CALLS[1:]:
                self.assertIs(self.refused(Unlike, function, claim, ["y"], *more), claim)
            for machine in (HALF, (2, 2, 0, [[0] * 5], [[0] * 5])):
                self.assertIs(self.refused(Unlike, undone, machine, claim, ["y"]), claim)

    def test_machines_that_read_or_tell_others(self):
        for machine in ((0, 1, 0, [[0, 0]], [[0, 0]]), (1, 2, 0, [[0] * 3], [[0] * 3]), (2, 1, 0, [[0] * 5], [[0] * 5])):
            self.assertIs(self.refused(Unlike, undone, machine, HALVED, ["y"]), machine)
        self.assertIsNone(undone(KEEP, ("same", "x", "y"), ["y"]))

    def test_claims_whose_tables_are_too_great(self):
        big = ("and", BIG, HALVED)
        for function, more in self.CALLS:
            self.assertEqual(self.refused(TooMany, function, big, ["y"], *more), 2001)
        for machine in (HALF, (2, 1, 0, [[0] * 5], [[0] * 5])):
            self.assertEqual(self.refused(TooMany, undone, machine, big, ["y"]), 2001)


if __name__ == "__main__":
    unittest.main()
