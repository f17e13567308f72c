"""Promises 60 to 64: what lies between two claims, and chains along a row of claims."""

import unittest

from howeverwide.between import chain, clash, clash_at, clashing_widths, how_many_open, is_between, is_chain, meeting, only_between
from howeverwide.between import shared_names, strongest, weakest
from howeverwide.building import table_of, table_on
from howeverwide.errors import InvalidClaim, InvalidClaims, InvalidWidth, TooMany
from howeverwide.joins import joined, turned
from howeverwide.tables import is_least
from howeverwide.widths import has_width, turned_widths
from howeverwide.words import free_names
from tests.support import POOL, Maker, fillings, have_new_lists, kept, plain_letters, plainly_holds, plainly_takes, raised_by
from tests.test_building import ring
from tests.test_widths import ALL, NONE, is_plain

FAR = 10 ** 30 - 1
DOUBLE, ODD, FOUR = ("same", "y", ("plus", "x", "x")), ("bit", 0, "y"), ("same", "y", ("times", 4, "x"))
LOW, HIGH, BACK = ("below", "x", "y"), ("below", "y", "z"), ("below", "z", "x")
BIG = ("and", ring(43, 1), ring(47, 1))


def names_of(claims):
    return sorted({name for claim in claims for name in free_names(claim)})


def meets(width, claim, words):
    return plainly_holds(width, claim, {name: words[name] for name in free_names(claim)})


def words_met(width, claim, names):
    """The words of some names of all fillings of a claim's free names that meet it."""
    return {tuple(dict(filling)[name] for name in names) for filling in fillings(free_names(claim), width)
            if plainly_holds(width, claim, dict(filling))}


def words_taken(width, table):
    names = [str(number) for number in range(table[0])]
    rows = [[word for _, word in filling] for filling in fillings(names, width)]
    return {tuple(words) for words in rows if plainly_takes(table, plain_letters(width, words))}


def all_words(width, many):
    return {tuple(word for _, word in filling) for filling in fillings([str(number) for number in range(many)], width)}


def made_pairs(seeds, names=(("x", "y"), ("y", "z")), deep=1):
    """Pairs of claims that have tables; of every other one the second is made to clash with the first."""
    for seed in seeds:
        one = Maker(seed, names[0]).claim(deep, 0)
        other = Maker(seed + 5000, names[1]).claim(deep, 0)
        if raised_by(table_of, one) or raised_by(table_of, other):
            continue
        yield one, other
        if seed % 2 == 0:
            inner = one
            for name in free_names(one):
                if name not in free_names(other):
                    inner = ("some", name, inner)
            yield one, ("and", other, ("not", inner))


class ClashTest(unittest.TestCase):

    def test_against_all_fillings_of_small_widths(self):
        found = {True: 0, False: 0}
        for one, other in made_pairs(range(90)):
            before = kept((one, other))
            names = names_of([one, other])
            self.assertEqual(shared_names(one, other), [name for name in names if name in free_names(one) and name in free_names(other)])
            widths, told, first = clashing_widths(one, other), clash(one, other), meeting(one, other)
            found[told] += 1
            self.assertIs(is_plain(widths), True)
            self.assertIs(told, widths == ALL)
            self.assertIs(told, first is None)
            wanted = None
            for width in range(3):
                met = [filling for filling in fillings(names, width) if meets(width, one, dict(filling)) and meets(width, other, dict(filling))]
                self.assertIs(clash_at(width, one, other), met == [])
                self.assertIs(has_width(widths, width), met == [])
                if met and wanted is None:
                    wanted = (width, met[0])
            if wanted is not None or (first is not None and first[0] < 3):
                self.assertEqual(first, wanted)
            self.assertIs(clash_at(FAR, one, other), has_width(widths, FAR))
            self.assertEqual((one, other), before)
            self.assertTrue(have_new_lists([widths, first, shared_names(one, other), meeting(one, other)], [one, other]))
        self.assertGreater(min(found.values()), 35)

    def test_names_all_shared_and_none(self):
        self.assertEqual([shared_names(LOW, ("top", "z")), shared_names(LOW, LOW)], [[], ["x", "y"]])
        self.assertEqual([meeting(LOW, ("top", "z")), clash(LOW, ("below", "z", "z"))], [(1, [("x", 0), ("y", 1), ("z", 1)]), True])
        self.assertEqual([clash(LOW, LOW), meeting(LOW, LOW)], [False, (1, [("x", 0), ("y", 1)])])
        self.assertEqual([shared_names(("and",), ("or",)), clash(("and",), ("or",)), meeting(("and",), ("and",))], [[], True, (0, [])])
        self.assertEqual([clashing_widths(ring(2, 0, 0), ring(2, 0, 1)), clash(ring(2, 0, 0), ring(2, 0, 1))], [ALL, True])
        self.assertEqual(clashing_widths(ring(2, 0, 0), ring(3, 0, 0)), ([], [False] + [True] * 5))
        self.assertEqual([shared_names(("some", "x", LOW), LOW), shared_names(("some", "y", LOW), ("all", "x", LOW))], [["y"], []])

    def test_the_first_filling_is_first_in_order(self):
        # By rows 2 and 1 come ahead of 1 and 2.
        pair = ("and", ("same", ("plus", "x", "y"), 3), ("not", ("same", "x", 0))), ("and", ("not", ("same", "x", 3)), ("not", ("same", 2, 0)))
        self.assertEqual(meeting(*pair), (2, [("x", 1), ("y", 2)]))

    def test_far_widths(self):
        self.assertEqual(clashing_widths(("bit", 8, "x"), ("same", ("times", 3, "x"), "y")), ([True] * 9, [False]))
        self.assertEqual(meeting(("bit", 8, "x"), ("same", ("times", 3, "x"), "y")), (9, [("x", 256), ("y", 256)]))
        self.assertEqual(meeting(ring(100, 0, 99), ("top", "x")), (99, [("x", 2 ** 98)]))


class BoundsTest(unittest.TestCase):

    def test_against_all_words_of_small_widths(self):
        open_ones = 0
        for one, other in made_pairs(range(200, 236)):
            before = kept((one, other))
            names = shared_names(one, other)
            low, high = strongest(one, other), weakest(one, other)
            self.assertEqual([low[0], high[0], is_least(low), is_least(high)], [len(names), len(names), True, True])
            for width in range(3):
                taken = words_taken(width, low), words_taken(width, high)
                self.assertEqual(taken[0], words_met(width, one, names))
                self.assertEqual(taken[1], all_words(width, len(names)) - words_met(width, other, names))
                if clash(one, other):
                    self.assertEqual(how_many_open(width, one, other), len(taken[1] - taken[0]))
                    self.assertLessEqual(taken[0], taken[1])
                    open_ones += len(taken[1] - taken[0])
                else:
                    error = raised_by(how_many_open, width, one, other)
                    self.assertIsInstance(error, InvalidClaim)
                    self.assertIs(error.value, other)
            self.look_at_between(one, other, low, high)
            self.assertEqual([turned(strongest(other, one)), turned(weakest(other, one))], [high, low])
            self.assertEqual((one, other), before)
            self.assertTrue(have_new_lists([low, high, strongest(one, other), only_between(one, other)], [one, other]))
        self.assertGreater(open_ones, 15)

    def look_at_between(self, one, other, low, high):
        told = clash(one, other)
        self.assertEqual([is_between(one, other, low), is_between(one, other, high)], [told, told])
        self.assertEqual(only_between(one, other), low if low == high else None)
        more = Maker(len(repr((one, other)))).table(low[0], 4)
        wanted = joined("or", low, joined("and", high, more))
        self.assertIs(is_between(one, other, wanted), told)
        self.assertIs(is_between(other, one, turned(wanted)), told)
        within = joined("then", low, more)[2] == [True] and joined("then", more, high)[2] == [True]
        self.assertIs(is_between(one, other, more), within)

    def test_any_value(self):
        for value, _ in POOL.entries:
            self.assertIs(is_between(DOUBLE, ODD, value), False, value)
            self.assertIs(raised_by(is_between, BIG, ODD, value).__class__, TooMany)
            self.assertIs(raised_by(is_between, ODD, BIG, value).__class__, TooMany)
        low = strongest(FOUR, ODD)
        self.assertIs(is_between(FOUR, ODD, low), True)
        self.assertIs(is_between(FOUR, ODD, list(low)), False)
        self.assertIs(is_between(FOUR, ODD, (2, [[stand for stand in step for _ in range(2)] for step in low[1]], low[2])), False)
        self.assertIs(is_between(FOUR, ODD, (2, [step + step for step in low[1]], low[2])), False)
        # A table between two claims need not be least, nor need all of its stands be reached.
        many, steps, ends = low
        wide = (many, [[stand + len(steps) for stand in step] for step in steps] + steps + [[0, 0]], ends * 2 + [True])
        self.assertIs(is_between(FOUR, ODD, wide), True)
        self.assertIs(is_between(FOUR, ODD, (many, steps, [not end for end in ends])), False)
        self.assertIs(is_between(FOUR, ODD, (1, [[0, 0]], [False])), False)

    def test_claims_without_shared_or_free_names(self):
        self.assertEqual([strongest(LOW, ("or",)), weakest(LOW, ("or",))], [(0, [[1], [1]], [False, True]), (0, [[0]], [True])])
        self.assertEqual([how_many_open(width, LOW, ("or",)) for width in range(4)], [1, 0, 0, 0])
        self.assertIs(is_between(LOW, ("or",), (0, [[0]], [True])), True)
        self.assertEqual([only_between(LOW, ("or",)), only_between(("or",), ("and",))], [None, (0, [[0]], [False])])
        self.assertEqual([only_between(("and",), ("or",)), only_between(("and",), ("and",))], [(0, [[0]], [True]), None])
        self.assertEqual([strongest(LOW, LOW), weakest(LOW, LOW)], [table_of(LOW), table_of(("not", LOW))])

    def test_two_claims_that_do_not_clash(self):
        self.assertEqual([clash(LOW, HIGH), only_between(LOW, HIGH)], [False, None])
        for value in (strongest(LOW, HIGH), weakest(LOW, HIGH), (1, [[0, 0]], [True]), (1, [[0, 0]], [False])):
            self.assertIs(is_between(LOW, HIGH, value), False)
        self.assertIs(raised_by(how_many_open, 3, LOW, HIGH).value, HIGH)
        # Clashing at some widths alone is no clash.
        four = ("same", 4, 0)
        self.assertEqual([clash_at(2, four, ("not", four)), clash(four, ("and", four, ("same", 2, 0)))], [True, False])

    def test_open_words_at_the_width_300(self):
        self.assertEqual(how_many_open(300, FOUR, ODD), 2 ** 298)
        self.assertEqual(how_many_open(300, DOUBLE, ODD), 0)
        self.assertEqual(how_many_open(300, ("below", "x", "x"), ("not", ("same", "x", "x"))), 2 ** 300)


class ChainTest(unittest.TestCase):

    def made_rows(self, seeds):
        """Rows of claims of which each has a table, made to clash all together in two of three rows."""
        for seed in seeds:
            maker = Maker(seed, ("x", "y", "z"))
            many = maker.random.randint(2, 4)
            claims = [Maker(seed * 7 + number, maker.random.sample(["x", "y", "z"], 2)).claim(1, 0) for number in range(many)]
            if seed % 3 > 0:
                claims[maker.random.randrange(many)] = maker.random.choice([LOW, BACK, ("same", "x", "y"), ("or",)])
                claims[maker.random.randrange(many)] = maker.random.choice([HIGH, ("not", LOW), ("bit", 0, "x"), ("below", "y", "x")])
            if all(raised_by(table_of, claim) is None for claim in claims):
                yield claims

    def test_against_all_words_of_small_widths(self):
        found = {True: 0, False: 0}
        for claims in self.made_rows(range(90)):
            before = kept(claims)
            told = chain(claims)
            together = clash(("and", *claims[:-1]), claims[-1])
            self.assertIs(told is not None, together)
            found[together] += 1
            self.assertEqual(claims, before)
            if told is None:
                self.assertIs(is_chain(claims, []), False)
                continue
            self.assertTrue(have_new_lists([told, chain(claims)], claims))
            self.assertIs(is_chain(claims, told), True)
            carried = [[name for name in names_of(claims[:place]) if name in names_of(claims[place:])] for place in range(1, len(claims))]
            self.assertEqual([names for names, _ in told], carried)
            for width in range(3):
                self.look_at_links(width, claims, told)
            for place, (names, table) in enumerate(told):
                self.assertEqual([table[0], is_least(table)], [len(names), True])
        self.assertGreater(min(found.values()), 25)

    def look_at_links(self, width, claims, told):
        """Each table takes just what some words of the further names that meet all claims up to it leave."""
        for place, (names, table) in enumerate(told):
            up_to = claims[:place + 1]
            known = names_of(up_to)
            wanted = {tuple(dict(filling)[name] for name in names) for filling in fillings(known, width)
                      if all(meets(width, claim, dict(filling)) for claim in up_to)}
            self.assertLessEqual(wanted, words_taken(width, table))
            if place == 0:
                self.assertEqual(wanted, words_taken(width, table))
            else:
                ahead, ahead_table = told[place - 1]
                both = sorted(set(ahead) | set(free_names(claims[place])))
                least = {tuple(dict(filling)[name] for name in names) for filling in fillings(both, width)
                         if meets(width, claims[place], dict(filling)) and
                         plainly_takes(ahead_table, plain_letters(width, [dict(filling)[name] for name in ahead]))}
                self.assertEqual(words_taken(width, table), least)

    def test_chains_that_take_more_than_the_least(self):
        claims = [LOW, HIGH, BACK]
        (first_names, first), (last_names, last) = chain(claims)
        self.assertEqual([first_names, last_names], [["x", "y"], ["x", "z"]])
        more = table_on(("not", ("below", "y", "x")), ["x", "y"])
        most = table_on(("not", ("below", "z", "x")), ["x", "z"])
        self.assertIs(is_chain(claims, [(first_names, first), (last_names, most)]), True)
        # From x up to y and y below z it does not follow that a word is between x and z.
        self.assertIs(is_chain(claims, [(first_names, more), (last_names, last)]), False)
        self.assertIs(is_chain(claims, [(first_names, more), (last_names, most)]), True)
        every, nothing = (2, [[0] * 4], [True]), (2, [[0] * 4], [False])
        same = table_on(("not", ("same", "x", "y")), ["x", "y"])
        for links in ([(first_names, every), (last_names, last)], [(first_names, first), (last_names, every)], [(first_names, same), (last_names, last)],
                      [(first_names, nothing), (last_names, last)], [(first_names, first), (last_names, nothing)],
                      [(last_names, first), (last_names, last)], [(first_names, last), (first_names, last)][:1], []):
            self.assertIs(is_chain(claims, links), False, links)

    def test_chains_of_two_claims(self):
        for one, other in made_pairs(range(400, 440)):
            told = chain([one, other])
            self.assertEqual(told, [(shared_names(one, other), strongest(one, other))] if clash(one, other) else None)
            for table in (strongest(one, other), weakest(one, other), Maker(3).table(len(shared_names(one, other)), 3)):
                self.assertIs(is_chain([one, other], [(shared_names(one, other), table)]), is_between(one, other, table))

    def test_names_that_come_and_go(self):
        claims = [("same", "x", "y"), ("top", "z"), ("same", "x", "z"), ("same", "w", 0), ("and", ("not", ("top", "y")), ("same", "w", "w"))]
        told = chain(claims)
        self.assertEqual([names for names, _ in told], [["x", "y"], ["x", "y", "z"], ["y"], ["w", "y"]])
        self.assertIs(is_chain(claims, told), True)
        self.assertEqual(told[2][1], table_of(("top", "y")))
        self.assertEqual(told[3][1], table_on(("and", ("top", "y"), ("same", "w", 0)), ["w", "y"]))
        self.assertIsNone(chain(claims[:-1]))
        six = [("below", "x", "y"), ("and",), ("below", "y", "z"), ("same", "z", "z"), ("below", "z", "w"), ("below", "w", "x")]
        told = chain(six)
        self.assertEqual([names for names, _ in told], [["x", "y"], ["x", "y"], ["x", "z"], ["x", "z"], ["w", "x"]])
        self.assertIs(is_chain(six, told), True)

    def test_claims_of_no_free_name(self):
        self.assertEqual([chain([("or",), ("and",)]), chain([("and",), ("or",)])], [[([], (0, [[0]], [False]))], [([], (0, [[0]], [True]))]])
        self.assertIsNone(chain([("and",), ("and",)]))
        rings = [ring(2, 0, 0), ring(3, 0, 0), ring(6, 0, 3)]
        told = chain(rings)
        self.assertEqual([told[0], told[1][1][2].count(True), len(told[1][1][1])], [([], (0, [[1], [0]], [True, False])), 1, 6])
        self.assertIs(is_chain(rings, told), True)
        self.assertIs(is_chain(rings, [told[0], told[0]]), True)
        self.assertIs(is_chain(rings[:2] + [ring(6, 0, 2)], [told[0], told[0]]), False)
        self.assertIs(is_chain(rings[:2] + [ring(6, 0, 2)], told), True)
        self.assertIs(is_chain(rings, [([], (0, [[0]], [True])), ([], (0, [[0]], [True]))]), False)

    def test_any_value(self):
        claims = [LOW, HIGH, BACK]
        told = chain(claims)
        for value, _ in POOL.entries:
            self.assertIs(is_chain(claims, value), False)
            self.assertIs(is_chain(claims, [value, told[1]]), False)
            self.assertIs(is_chain(claims, [(told[0][0], value), told[1]]), value == told[0][1])
            self.assertIs(is_chain(claims, [(value, told[0][1]), told[1]]), value == told[0][0])
            self.assertIs(raised_by(is_chain, [LOW, BIG], value).__class__, TooMany)
        for value in (tuple(told), told + told[:1], told[:1], [list(told[0]), told[1]], [told[0] + (1,), told[1]], [(tuple(told[0][0]), told[0][1]), told[1]]):
            self.assertIs(is_chain(claims, value), False)

    def test_errors(self):
        for wrong in (None, [], [LOW], (LOW, HIGH), [LOW, "x"], [LOW, HIGH, None], {}, "x"):
            for function, more in ((chain, []), (is_chain, [None])):
                error = raised_by(function, wrong, *more)
                self.assertIsInstance(error, InvalidClaims)
                self.assertIs(error.value, wrong)
        for claims in ([BIG, LOW], [LOW, BIG], [LOW, ("or",), BIG]):
            for function, more in ((chain, []), (is_chain, [None])):
                error = raised_by(function, claims, *more)
                self.assertEqual([error.__class__, error.value], [TooMany, 2001])


class ErrorsTest(unittest.TestCase):

    def test_what_is_no_claim_or_no_width(self):
        for function in (shared_names, clash, clashing_widths, meeting, strongest, weakest, only_between):
            for wrong in POOL.wrong("claim")[:40]:
                for arguments in ((wrong, LOW), (wrong, None), (BIG, wrong), (LOW, wrong)):
                    error = raised_by(function, *arguments)
                    self.assertIsInstance(error, InvalidClaim)
                    self.assertIs(error.value, wrong)
        for wrong in (-1, True, None, "3"):
            for function in (clash_at, how_many_open):
                error = raised_by(function, wrong, None, None)
                self.assertEqual([error.__class__, error.value], [InvalidWidth, wrong])
        self.assertIsInstance(raised_by(how_many_open, 301, LOW, BACK), InvalidWidth)
        self.assertIs(clash_at(301, LOW, BACK), False)

    def test_claims_whose_tables_are_too_great(self):
        self.assertEqual(shared_names(BIG, LOW), [])
        for function, ahead in ((clash, []), (clash_at, [3]), (clashing_widths, []), (meeting, []), (strongest, []), (weakest, []),
                                (how_many_open, [3]), (only_between, [])):
            for one, other in ((BIG, LOW), (LOW, BIG), (("or",), BIG), (BIG, ("or",))):
                error = raised_by(function, *ahead, one, other)
                self.assertEqual([error.__class__, error.value], [TooMany, 2001], function.__name__)

    def test_turned_widths(self):
        for one, other in made_pairs(range(600, 620)):
            both = clashing_widths(one, other)
            self.assertEqual(both, clashing_widths(other, one))
            self.assertEqual(turned_widths(turned_widths(both)), both)
        self.assertEqual([clashing_widths(LOW, BACK), clashing_widths(("and",), ("and",))], [([True, True], [False]), NONE])


if __name__ == "__main__":
    unittest.main()
