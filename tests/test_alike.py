"""Promises 31 to 34: alike claims, which follows from which, and claims exchanged within claims."""

import unittest

from howeverwide.alike import against, alike_from, are_alike, enough, exchanged, follows, is_always, is_never, part_at, parting
from howeverwide.building import table_of, table_on
from howeverwide.errors import InvalidClaim, InvalidNumber, TooMany
from howeverwide.words import free_names
from tests.support import POOL, Maker, fillings, have_new_lists, kept, plain_letters, plainly_holds, raised_by
from tests.test_building import counted, ring

LESS, APART = ("below", "x", "y"), ("not", ("same", "x", "y"))
TWO = [are_alike, parting, enough, follows, against, alike_from]


def made_pairs(seeds, deep, names=("x", "y")):
    """Pairs of claims of which both have a table; every third pair is nearly the same claim twice."""
    for seed in range(seeds):
        one = Maker(seed, names).claim(deep, 1)
        other = Maker(seed + 10000, names).claim(deep, 1)
        if seed % 3 == 0:
            other = ("or", one, ("and", other, ("same", 2 ** (seed % 4), 0)))
        try:
            table_of(one)
            table_of(other)
            table_of(("and", one, other))
        except TooMany:
            continue
        yield one, other


def inner(claim, words):
    return {name: words[name] for name in free_names(claim)}


def first_by_rows(names, most, rule):
    """The least width and the first filling, by rows, for which a rule says so."""
    for width in range(most + 1):
        found = [filling for filling in fillings(names, width) if rule(width, dict(filling))]
        if found:
            return width, min(found, key=lambda filling: plain_letters(width, [word for _, word in filling]))
    return None


class AlikeTest(unittest.TestCase):

    def test_against_holding_at_small_widths(self):
        found = {True: 0, False: 0}
        for one, other in made_pairs(80, 2):
            before = kept((one, other))
            names = sorted(set(free_names(one)) | set(free_names(other)))
            parted = first_by_rows(names, 3, lambda width, words: plainly_holds(width, one, inner(one, words)) !=
                                   plainly_holds(width, other, inner(other, words)))
            told = parting(one, other)
            found[told is None] += 1
            self.assertIs(are_alike(one, other), told is None)
            self.assertIs(are_alike(other, one), told is None)
            self.assertEqual(parting(other, one), told)
            if told is None or told[0] > 3:
                self.assertIsNone(parted)
            else:
                self.assertEqual(told, parted)
            if told is not None:
                self.assertLess(told[0], enough(one, other))
            beyond = first_by_rows(names, 3, lambda width, words: plainly_holds(width, one, inner(one, words)) and
                                   not plainly_holds(width, other, inner(other, words)))
            told = against(one, other)
            self.assertIs(follows(one, other), told is None)
            self.assertEqual(None if told is not None and told[0] > 3 else told, beyond)
            self.assertIs(are_alike(one, other), follows(one, other) and follows(other, one))
            self.assertEqual((one, other), before)
        self.assertGreater(min(found.values()), 15)

    def test_free_names_that_just_one_claim_has(self):
        self.assertEqual(parting(("top", "x"), ("top", "y")), (1, [("x", 1), ("y", 0)]))
        self.assertEqual(parting(("top", "y"), ("and",)), (0, [("y", 0)]))
        self.assertIs(are_alike(("same", "x", "x"), ("same", "y", "y")), True)
        self.assertIs(are_alike(("same", "x", "x"), ("and",)), True)
        self.assertIs(are_alike(("some", "x", ("top", "x")), ("some", "y", ("bit", 0, "y"))), True)
        self.assertEqual(against(("top", "y"), ("top", "x")), (1, [("x", 0), ("y", 1)]))
        self.assertEqual(against(("and",), ("below", "w", "a")), (0, [("a", 0), ("w", 0)]))
        self.assertIs(follows(("below", "x", "y"), ("below", "x", "x")), False)

    def test_without_free_names(self):
        self.assertEqual(parting(("same", 8, 0), ("and",)), (4, []))
        self.assertEqual([parting(("or",), ("or",)), parting(("or",), ("and",))], [None, (0, [])])
        self.assertEqual(against(("same", 8, 0), ("or",)), (0, []))
        self.assertIs(follows(("or",), ("same", 8, 0)), True)

    def test_enough(self):
        for one, other in made_pairs(60, 2):
            names = sorted(set(free_names(one)) | set(free_names(other)))
            wanted = len(table_on(one, names)[1]) + len(table_on(other, names)[1]) - 1
            self.assertEqual([enough(one, other), enough(other, one)], [wanted, wanted])
        self.assertEqual(enough(("and",), ("and",)), 1)
        one, other = ring(4, 0, 3), ring(3, 0, 1)
        self.assertEqual([enough(one, other), parting(one, other)], [6, (1, [])])
        # All widths below this number can be needed.
        late, never = ("told", (0, [[1], [2], [3], [3]], [False, False, False, True]), []), ("or",)
        self.assertEqual([enough(late, never), parting(late, never)], [4, (3, [])])

    def test_the_first_filling_by_rows_is_not_the_first_in_order(self):
        # By rows [("x", 2), ("y", 1)] has the letters 2, 1, and so stands behind [("x", 3), ("y", 0)] with 1, 1.
        claim = ("or", ("and", ("same", "x", 2), ("same", "y", 1), ("not", ("same", 2, 0))),
                 ("and", ("same", "x", 3), ("same", "y", 0), ("not", ("same", 2, 0))))
        self.assertEqual(parting(claim, ("or",)), (2, [("x", 3), ("y", 0)]))
        self.assertEqual(against(claim, ("or",)), (2, [("x", 3), ("y", 0)]))

    def test_alike_from(self):
        four = ("same", 4, 0)
        self.assertEqual([alike_from(LESS, LESS), alike_from(four, ("or",)), alike_from(four, ("and",))], [0, 3, None])
        self.assertIsNone(alike_from(LESS, APART))
        self.assertIsNone(alike_from(ring(5, 0), ring(5, 0, 1)))
        self.assertEqual(alike_from(ring(1, 0), ("and",)), 0)
        self.assertEqual(alike_from(("bit", 3, "x"), ("or",)), None)
        self.assertEqual(alike_from(("below", "x", 8), ("and",)), None)
        self.assertEqual(alike_from(("below", 8, 3), ("same", 8, 0)), 1)
        # Parting at some widths of a round, though not at each, is parting without end.
        self.assertIsNone(alike_from(ring(3, 0), ring(6, 0)))
        gaps = ("told", (0, [[stand + 1] for stand in range(9)] + [[9]], [stand in (2, 6) for stand in range(10)]), [])
        self.assertEqual(alike_from(gaps, ("or",)), 7)
        for one, other in made_pairs(90, 2):
            names = sorted(set(free_names(one)) | set(free_names(other)))
            parts = []
            for width in range(4):
                parts.append(any(plainly_holds(width, one, inner(one, dict(filling))) != plainly_holds(width, other, inner(other, dict(filling)))
                                 for filling in fillings(names, width)))
            told = alike_from(one, other)
            if told is not None:
                self.assertFalse(any(parts[told:]), (one, other))
                self.assertTrue(told == 0 or told > 4 or parts[told - 1], (one, other))
            self.assertEqual(told == 0, are_alike(one, other))
            self.assertEqual(alike_from(other, one), told)

    def test_always_and_never(self):
        for claim, _ in made_pairs(70, 3):
            names = free_names(claim)
            told = {plainly_holds(width, claim, dict(filling)) for width in range(3) for filling in fillings(names, width)}
            if is_always(claim):
                self.assertEqual(told, {True})
            if is_never(claim):
                self.assertEqual(told, {False})
            self.assertIs(is_always(claim), are_alike(claim, ("and",)))
            self.assertIs(is_never(claim), are_alike(claim, ("or",)))
            self.assertIs(is_always(("not", claim)), is_never(claim))
        commutes = ("all", "x", ("all", "y", ("same", ("plus", "x", "y"), ("plus", "y", "x"))))
        self.assertEqual([is_always(commutes), is_never(commutes)], [True, False])
        self.assertEqual([is_always(("bit", 8, "x")), is_never(("bit", 8, "x"))], [False, False])
        self.assertEqual([is_always(("same", 256, 0)), is_never(("below", "x", "x"))], [False, True])

    def test_wrong_claims(self):
        for function in TWO:
            for one, other, wrong in ((None, ("same",), None), (LESS, ("top", 1, 2), ("top", 1, 2)), (("sum", [], 0), None, ("sum", [], 0))):
                error = raised_by(function, one, other)
                self.assertIs(error.__class__, InvalidClaim)
                self.assertEqual(error.value, wrong)
        # What is wrong is told ahead of what is too much.
        self.assertIs(raised_by(parting, ("or", ring(23, 1), ring(87, 1)), "x").__class__, InvalidClaim)

    def test_too_many_for_a_table(self):
        much = ("or", ring(23, 1), ring(87, 1))
        for function in TWO:
            for arguments in ((much, LESS), (LESS, much)):
                error = raised_by(function, *arguments)
                self.assertEqual([error.__class__, error.value], [TooMany, 2001])
        for function in (is_always, is_never):
            error = raised_by(function, ("some", "y", counted(11)))
            self.assertEqual([error.__class__, error.value], [TooMany, 2001])

    def test_too_many_pairs(self):
        one, other = ring(23, 1), ring(87, 1)
        self.assertEqual([are_alike(one, other), parting(one, other), enough(one, other)], [False, (23, [("a", 0)]), 109])
        for function in (follows, against, alike_from):
            for arguments in ((one, other), (other, one)):
                error = raised_by(function, *arguments)
                self.assertEqual([error.__class__, error.value], [TooMany, 2001])
        self.assertEqual(against(ring(16, 1), ring(125, 1)), (16, [("a", 0)]))
        self.assertIsNone(alike_from(ring(16, 1), ring(125, 1)))
        self.assertIs(follows(ring(100, 1), ring(200, 1)), False)
        self.assertIs(follows(ring(200, 1), ring(100, 1)), True)

    def test_too_many_lots_of_pairs(self):
        # From the stand 0 each letter leads to the first stand of one of four rings, so lots come back late.
        def rings(sizes):
            starts = [1 + sum(sizes[:number]) for number in range(len(sizes))]
            steps = [[starts[letter % len(sizes)] for letter in range(4)]]
            for start, size in zip(starts, sizes):
                steps += [[start + (place + 1) % size] * 4 for place in range(size)]
            ends = [False] + [place == 0 for size in sizes for place in range(size)]
            return ("told", (2, steps, ends), ["x", "y"])

        few, many = rings([4, 9, 5, 11]), rings([7, 9, 5, 11])
        self.assertIsNone(alike_from(few, ("or",)))
        self.assertIs(follows(("or",), many), True)
        error = raised_by(alike_from, many, ("or",))
        self.assertEqual([error.__class__, error.value], [TooMany, 2001])


class PartsTest(unittest.TestCase):

    TOLD = ("told", (1, [[0, 1], [1, 0]], [True, False]), ["x"])
    CLAIM = ("then", ("some", "y", ("and", LESS, TOLD, ("not", APART))), ("all", "x", ("iff", TOLD, ("or",))))

    def test_parts(self):
        for road, part in (([], self.CLAIM), ([1], self.CLAIM[1]), ([1, 2], self.CLAIM[1][2]), ([1, 2, 1], LESS), ([1, 2, 2], self.TOLD),
                           ([1, 2, 3], ("not", APART)), ([1, 2, 3, 1], APART), ([1, 2, 3, 1, 1], ("same", "x", "y")),
                           ([2, 2, 1], self.TOLD), ([2, 2, 2], ("or",))):
            before = kept(road)
            found = part_at(self.CLAIM, road)
            self.assertEqual([found, road], [part, before])
            self.assertTrue(have_new_lists([found, part_at(self.CLAIM, road)], [self.CLAIM, road]))
            for other in (("top", "z"), self.TOLD, self.CLAIM):
                made = exchanged(self.CLAIM, road, other)
                self.assertEqual(part_at(made, road), other)
                self.assertEqual(exchanged(made, road, part), self.CLAIM)
                self.assertTrue(have_new_lists([made, exchanged(self.CLAIM, road, other)], [self.CLAIM, other]))
        self.assertEqual(exchanged(self.CLAIM, [], LESS), LESS)
        self.assertEqual(exchanged(("and", LESS, LESS), [2], ("or",)), ("and", LESS, ("or",)))

    def test_roads_to_what_is_no_claim(self):
        told = ("and", ("bit", 3, ("plus", "x", 1)), self.TOLD, ("some", "y", ("top", "y")))
        for claim, road in ((told, [0]), (told, [4]), (told, [1, 1]), (told, [1, 2]), (told, [1, 2, 1]), (told, [2, 0]), (told, [2, 1]),
                            (told, [2, 1, 1]), (told, [2, 2]), (told, [2, 2, 0]), (told, [3, 0]), (told, [3, 1]), (told, [3, 2, 1]),
                            (told, [-1]), (told, [3, -1]), (told, [True]), (told, [None]), (told, [1, 0]), (("and",), [0]), (("and",), [1]),
                            (told, (3,)), (told, None), (told, 3), (told, "3"), (told, {}), (told, [10 ** 29]), (told, [[3]]), (told, ())):
            for error in (raised_by(part_at, claim, road), raised_by(exchanged, claim, road, LESS), raised_by(exchanged, claim, road, None)):
                self.assertIs(error.__class__, InvalidNumber, road)
                self.assertIs(error.value, road)
        for claim in (None, ("sum", [], 0), ("and", 1)):
            for error in (raised_by(part_at, claim, None), raised_by(exchanged, claim, None, None)):
                self.assertIs(error.__class__, InvalidClaim)
                self.assertIs(error.value, claim)
        for other in POOL.wrong("claim"):
            error = raised_by(exchanged, told, [1], other)
            self.assertIs(error.__class__, InvalidClaim)
            self.assertIs(error.value, other)

    def test_alike_parts_make_alike_claims(self):
        less = ("and", ("not", ("same", "x", "y")), ("not", ("below", "y", "x")))
        self.assertIs(are_alike(LESS, less), True)
        for claim, road in ((("some", "y", LESS), [2]), (("all", "x", ("some", "y", ("iff", LESS, ("top", "x")))), [2, 2, 1]),
                            (("some", "x", ("all", "y", ("then", ("not", LESS), ("top", "y")))), [2, 2, 1, 1])):
            self.assertEqual(part_at(claim, road), LESS)
            made = exchanged(claim, road, less)
            self.assertNotEqual(made, claim)
            self.assertIs(are_alike(claim, made), True)
            self.assertIs(are_alike(claim, exchanged(claim, road, ("or", less, ("same", "y", "x")))), False)


if __name__ == "__main__":
    unittest.main()
