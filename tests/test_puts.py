"""Promises 10 to 12: putting in, renaming, and plain bound names."""

import unittest

from howeverwide.errors import InvalidNames
from howeverwide.meaning import holds
from howeverwide.puts import are_renamings, plain_bound, put_in, renamed
from howeverwide.words import free_names, is_claim, names_of_expression
from tests.support import Maker, fillings, have_new_lists, kept, plain_value, raised_by

TABLE = (2, [[0, 0, 1, 0], [1, 0, 1, 1]], [False, True])


def told(*names):
    return ("told", TABLE, list(names))


class PutInTest(unittest.TestCase):

    def test_against_holds_at_small_widths(self):
        for seed in range(800):
            maker = Maker(seed, ("x", "y", "t1", "t2"))
            claim, name, expression = maker.claim(3), maker.random.choice(maker.names), maker.expression(1)
            before = kept(claim)
            made = put_in(claim, name, expression)
            self.assertEqual(claim, before)
            self.assertIs(is_claim(made), True)
            self.assertTrue(have_new_lists(made, claim))
            self.look_at_all_fillings(claim, name, expression, made)

    def look_at_all_fillings(self, claim, name, expression, made):
        free = set(free_names(claim))
        names = sorted((free - {name}) | set(names_of_expression(expression)))
        self.assertLessEqual(set(free_names(made)), set(names))
        for width in (0, 1, 2):
            for filling in fillings(names, width):
                words = dict(filling)
                inner = {**words, name: plain_value(width, expression, words)}
                wanted = holds(width, claim, [(one, inner[one]) for one in sorted(free)])
                told_now = holds(width, made, [(one, words[one]) for one in free_names(made)])
                self.assertIs(told_now, wanted, (claim, name, expression, made))

    def test_a_name_that_is_not_free_leaves_the_claim(self):
        for claim in (("some", "x", ("same", "x", "y")), ("and",), ("some", "x", told("x", "y"))):
            self.assertEqual(put_in(claim, "x", ("plus", "y", 1)), claim)
            self.assertEqual(put_in(claim, "z", "y"), claim)

    def test_in_expressions(self):
        claim = ("iff", ("bit", 3, ("times", 5, "x")), ("under", ("down", 2, ("turned", "x")), 7))
        wanted = ("iff", ("bit", 3, ("times", 5, ("plus", "x", 1))), ("under", ("down", 2, ("turned", ("plus", "x", 1))), 7))
        self.assertEqual(put_in(claim, "x", ("plus", "x", 1)), wanted)
        self.assertEqual(put_in(("then", ("top", "x"), ("or", ("top", "x"), ("or",))), "x", 5),
                         ("then", ("top", 5), ("or", ("top", 5), ("or",))))

    def test_bound_names_give_way_where_they_must(self):
        claim = ("some", "y", ("all", "z", ("below", ("plus", "x", "y"), "z")))
        self.assertEqual(put_in(claim, "x", "z"), ("some", "y", ("all", "t1", ("below", ("plus", "z", "y"), "t1"))))
        self.assertEqual(put_in(claim, "x", ("plus", "y", "z")),
                         ("some", "t1", ("all", "t2", ("below", ("plus", ("plus", "y", "z"), "t1"), "t2"))))
        self.assertEqual(put_in(claim, "x", ("plus", "x", "w")),
                         ("some", "y", ("all", "z", ("below", ("plus", ("plus", "x", "w"), "y"), "z"))))

    def test_bound_names_stay_where_the_name_is_not_the_claims_own(self):
        inner = ("some", "y", ("some", "x", ("below", "x", "y")))
        self.assertEqual(put_in(("and", inner, ("top", "x")), "x", "y"), ("and", inner, ("top", "y")))
        within = ("all", "x", ("some", "y", ("below", "x", "y")))
        self.assertEqual(put_in(("or", within, ("top", "x")), "x", "y"), ("or", within, ("top", "y")))
        self.assertEqual(put_in(("some", "y", ("top", "y")), "x", "y"), ("some", "y", ("top", "y")))

    def test_names_that_bind_within_one_another(self):
        claim = ("some", "y", ("and", ("below", "x", "y"), ("all", "y", ("below", "y", "x"))))
        wanted = ("some", "t1", ("and", ("below", "y", "t1"), ("all", "t2", ("below", "t2", "y"))))
        self.assertEqual(put_in(claim, "x", "y"), wanted)
        claim = ("some", "y", ("and", ("below", "x", "y"), ("all", "y", ("top", "y")), ("all", "x", ("below", "x", "y"))))
        wanted = ("some", "t1", ("and", ("below", "y", "t1"), ("all", "y", ("top", "y")), ("all", "x", ("below", "x", "t1"))))
        self.assertEqual(put_in(claim, "x", "y"), wanted)

    def test_made_names_in_order_and_none_that_stands_anywhere(self):
        claim = ("then", ("some", "y", ("same", "x", "t1")), ("some", "y", ("below", "x", ("plus", "y", "t3"))))
        wanted = ("then", ("some", "t2", ("same", "y", "t1")), ("some", "t4", ("below", "y", ("plus", "t4", "t3"))))
        self.assertEqual(put_in(claim, "x", "y"), wanted)
        claim = ("some", "t1", ("and", ("same", "x", "t1"), ("all", "t2", ("top", "t2")), told("t4", "y")))
        wanted = ("some", "t5", ("and", ("same", ("plus", "t1", "t3"), "t5"), ("all", "t2", ("top", "t2")), told("t4", "y")))
        self.assertEqual(put_in(claim, "x", ("plus", "t1", "t3")), wanted)
        self.assertEqual(put_in(("some", "y", ("same", "t1", "y")), "t1", "y"), ("some", "t2", ("same", "y", "t2")))

    def test_names_that_bind_and_stand_nowhere_else_are_not_made_again(self):
        for word in ("some", "all"):
            idle = (word, "t1", ("top", "z"))
            claim = ("and", (word, "y", ("same", "x", "y")), idle)
            self.assertEqual(put_in(claim, "x", "y"), ("and", (word, "t2", ("same", "y", "t2")), idle))
            self.assertEqual(renamed(claim, [("x", "y")]), ("and", (word, "t2", ("same", "y", "t2")), idle))
            self.assertEqual(put_in((word, "t1", told("x", "y")), "x", 1)[2][1], "t2")
            self.assertEqual(plain_bound(claim), ("and", (word, "t1", ("same", "x", "t1")), (word, "t2", ("top", "z"))))

    def test_told_with_another_name(self):
        self.assertEqual(put_in(told("y", "x"), "x", "z"), told("y", "z"))
        self.assertEqual(put_in(told("x", "y"), "x", "x"), told("x", "y"))
        self.assertEqual(put_in(("some", "y", told("y", "x")), "x", "y"), ("some", "t1", told("t1", "y")))
        self.assertEqual(put_in(("some", "z", told("y", "x")), "x", "z"), ("some", "t1", told("y", "z")))

    def test_told_becomes_a_some(self):
        self.assertEqual(put_in(told("y", "x"), "x", "y"), ("some", "t1", ("and", ("same", "t1", "y"), told("y", "t1"))))
        self.assertEqual(put_in(told("x", "y"), "x", 5), ("some", "t1", ("and", ("same", "t1", 5), told("t1", "y"))))
        claim = ("or", told("x", "t1"), ("some", "y", ("and", told("y", "x"), ("top", "x"))), told("y", "z"), told("t2", "x"))
        put = ("plus", "y", "x")
        wanted = ("or", ("some", "t3", ("and", ("same", "t3", put), told("t3", "t1"))),
                  ("some", "t4", ("and", ("some", "t5", ("and", ("same", "t5", put), told("t4", "t5"))), ("top", put))),
                  told("y", "z"), ("some", "t6", ("and", ("same", "t6", put), told("t2", "t6"))))
        self.assertEqual(put_in(claim, "x", put), wanted)


class RenamedTest(unittest.TestCase):

    def test_against_holds_at_small_widths(self):
        for seed in range(800):
            maker = Maker(seed, ("x", "y", "t1", "t2"))
            claim = maker.claim(3)
            olds, news = maker.random.sample(maker.names, 2), maker.random.sample(maker.names + ["z"], 2)
            pairs = list(zip(olds, news))
            error = raised_by(renamed, claim, pairs)
            kept_names = set(free_names(claim)) - set(olds)
            if kept_names & set(news):
                self.assertIsInstance(error, InvalidNames)
                continue
            made = renamed(claim, pairs)
            self.assertEqual(set(free_names(made)), kept_names | {new for old, new in pairs if old in free_names(claim)})
            self.assertTrue(have_new_lists(made, claim))
            for width in (0, 1, 2):
                for filling in fillings(free_names(claim), width):
                    moved = sorted((dict(pairs).get(name, name), word) for name, word in filling)
                    self.assertIs(holds(width, made, moved), holds(width, claim, filling), (claim, pairs, made))

    def test_all_at_once(self):
        claim = ("and", ("below", "x", "y"), told("y", "z"))
        self.assertEqual(renamed(claim, [("x", "y"), ("y", "z"), ("z", "x")]), ("and", ("below", "y", "z"), told("z", "x")))
        self.assertEqual(renamed(claim, []), claim)
        self.assertEqual(renamed(claim, [("x", "x"), ("w", "v")]), claim)

    def test_bound_names_give_way(self):
        claim = ("some", "y", ("and", ("below", "x", "y"), ("all", "z", ("same", "x", "z")), told("x", "y")))
        wanted = ("some", "t1", ("and", ("below", "y", "t1"), ("all", "z", ("same", "y", "z")), told("y", "t1")))
        self.assertEqual(renamed(claim, [("x", "y")]), wanted)
        self.assertEqual(renamed(claim, [("x", "t1")])[1], "y")
        self.assertEqual(renamed(claim, [("x", "y"), ("t1", "t2")])[1], "t3")
        self.assertEqual(renamed(("some", "y", ("top", "y")), [("x", "y")]), ("some", "y", ("top", "y")))
        self.assertEqual(renamed(("some", "x", ("same", "x", "y")), [("x", "z")]), ("some", "x", ("same", "x", "y")))
        self.assertEqual(renamed(("some", "x", ("same", "x", "y")), [("y", "x")]), ("some", "t1", ("same", "t1", "x")))

    def test_wrong_pairs(self):
        claim = ("same", ("plus", "x", "y"), "z")
        for pairs in ([("x", "y")], [("w", "x")], [("x", "a"), ("y", "a")], [("x", "a"), ("x", "b")], [("x", "all")],
                      [("x", 1)], [(1, "x")], [("all", "x")], [("x",)], [("x", "a", "b")], [["x", "a"]], (("x", "a"),), {"x": "a"}, [("x", "y"), ("y", "z")]):
            error = raised_by(renamed, claim, pairs)
            self.assertIs(error.__class__, InvalidNames, pairs)
            self.assertIs(error.value, pairs)


class PlainBoundTest(unittest.TestCase):

    def exchange_bound(self, maker, claim):
        """Return a claim alike but for bound names, by names that stand nowhere else."""
        if not isinstance(claim, tuple):
            return claim
        if claim[0] == "told":
            return kept(claim)
        if claim[0] not in ("some", "all"):
            return tuple(self.exchange_bound(maker, part) for part in claim)
        self.made += 1
        new = f"{maker.random.choice('abc')}{self.made}" if maker.random.random() < 0.7 else claim[1]
        inner = self.exchange_bound(maker, claim[2])
        if new != claim[1]:
            inner = put_in(inner, claim[1], new)
        return (claim[0], new, inner)

    def test_against_holds_and_renamings(self):
        for seed in range(800):
            self.made = 0
            maker = Maker(seed, ("x", "y", "t1"))
            claim = maker.claim(4, 3)
            made = plain_bound(claim)
            self.assertEqual(free_names(made), free_names(claim))
            self.assertEqual(plain_bound(made), made)
            self.assertTrue(have_new_lists(made, claim))
            self.assertIs(are_renamings(claim, made), True)
            other = self.exchange_bound(maker, claim)
            self.assertIs(are_renamings(claim, other), True, (claim, other))
            self.assertEqual(plain_bound(other), made)
            for filling in fillings(free_names(claim), 1):
                self.assertIs(holds(1, made, filling), holds(1, claim, filling))

    def test_in_the_order_of_the_text_without_free_names(self):
        claim = ("iff", ("some", "x", ("all", "y", ("below", "x", "y"))), ("all", "x", ("same", "x", "t2")))
        wanted = ("iff", ("some", "t1", ("all", "t3", ("below", "t1", "t3"))), ("all", "t4", ("same", "t4", "t2")))
        self.assertEqual(plain_bound(claim), wanted)
        nested = ("some", "x", ("and", ("top", "x"), ("some", "x", ("bit", 0, "x")), ("bit", 1, "x")))
        wanted = ("some", "t1", ("and", ("top", "t1"), ("some", "t2", ("bit", 0, "t2")), ("bit", 1, "t1")))
        self.assertEqual(plain_bound(nested), wanted)
        claim = ("some", "t2", ("some", "t1", told("t1", "t2")))
        self.assertEqual(plain_bound(claim), ("some", "t1", ("some", "t2", told("t2", "t1"))))

    def test_what_is_not_alike_but_for_bound_names(self):
        self.assertIs(are_renamings(("some", "x", ("top", "x")), ("all", "x", ("top", "x"))), False)
        self.assertIs(are_renamings(("some", "x", ("same", "x", "y")), ("some", "x", ("same", "x", "z"))), False)
        self.assertIs(are_renamings(("some", "x", ("same", "x", "y")), ("some", "y", ("same", "y", "y"))), False)
        self.assertIs(are_renamings(("top", "x"), ("top", "y")), False)
        one = ("some", "x", ("some", "y", ("below", "x", "y")))
        self.assertIs(are_renamings(one, ("some", "y", ("some", "x", ("below", "y", "x")))), True)
        self.assertIs(are_renamings(one, ("some", "y", ("some", "x", ("below", "x", "y")))), False)


if __name__ == "__main__":
    unittest.main()
