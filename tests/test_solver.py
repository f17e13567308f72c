"""Promises 78 to 80: a live solver."""

import unittest

from howeverwide.building import table_of
from howeverwide.errors import InvalidClaim, InvalidDeed, InvalidWidth, NothingToRedo, NothingToUndo, TooMany
from howeverwide.judge import is_no
from howeverwide.papers import no_paper
from howeverwide.reach import met_widths, sure_widths
from howeverwide.sheets import sheet_of
from howeverwide.solver import Solver, is_deed
from howeverwide.texts import text_of_claim
from howeverwide.widths import has_width
from howeverwide.words import free_names
from tests.support import POOL, Maker, fillings, have_new_lists, kept, plainly_holds, raised_by
from tests.test_building import ring
from tests.test_cores import made_lists
from tests.test_widths import ALL, NONE

ODD, TWICE, TOP = ("bit", 0, "x"), ("same", ("plus", "x", "x"), "y"), ("top", "x")
TOLD = ("told", (1, [[0, 1], [1, 0]], [True, False]), ["x"])
BIG = [ring(43, 1), ring(47, 1)]
FAR = 10 ** 30 - 1


def done(*deeds):
    solver = Solver()
    for deed in deeds:
        solver.do(deed)
    return solver


def with_claims(claims):
    return done(*[("claim", claim) for claim in claims])


class Plain:
    """The layers and the deeds of a solver, kept as plain lists."""

    def __init__(self):
        self.past, self.future = [], []
        self.layers = [[]]

    def behind(self, deed):
        """The layers behind a deed, None if it cannot be done."""
        layers = [list(layer) for layer in self.layers]
        if deed[0] == "claim":
            layers[-1].append(deed[1])
        elif deed[0] == "drop":
            if deed[1] >= len(layers[-1]):
                return None
            del layers[-1][deed[1]]
        elif deed[0] == "push":
            layers.append([])
        elif deed[0] == "pop":
            if len(layers) == 1:
                return None
            layers.pop()
        else:
            layers[-1].extend(deed[2])
        claims = [claim for layer in layers for claim in layer]
        names = {name for claim in claims for name in free_names(claim)}
        return layers if len(layers) <= 9 and len(claims) <= 12 and len(names) <= 4 else None

    def do(self, deed, layers):
        self.past.append((deed, self.layers))
        self.layers, self.future = layers, []

    def undo(self):
        deed, layers = self.past.pop()
        self.future.append((deed, self.layers))
        self.layers = layers

    def redo(self):
        deed, layers = self.future.pop()
        self.past.append((deed, self.layers))
        self.layers = layers


class DeedsTest(unittest.TestCase):

    def look_at(self, solver, plain):
        claims = [claim for layer in plain.layers for claim in layer]
        self.assertEqual(solver.layers(), plain.layers)
        self.assertEqual(solver.claims(), claims)
        self.assertEqual(solver.names(), sorted({name for claim in claims for name in free_names(claim)}))
        self.assertEqual(solver.together(), ("and", *claims))
        self.assertEqual(solver.sheet(), sheet_of(claims))
        self.assertEqual(solver.log(), [deed[:2] for deed, _ in plain.past])
        self.assertTrue(have_new_lists([solver.layers(), solver.claims(), solver.together(), solver.log(), solver.names()], plain.layers))

    def made_deed(self, random, seed):
        """A deed, with the claims of its sheet behind it if it reads one."""
        word = random.choice(["claim", "claim", "claim", "drop", "push", "push", "pop", "read"])
        maker = Maker(seed, random.sample(["a", "b", "c", "x", "y"], 2))
        if word == "claim":
            return (word, maker.claim(1, 1))
        if word == "drop":
            return (word, random.randint(0, 3))
        if word == "read":
            claims = [maker.claim(1, 1) for _ in range(random.randint(0, 4))]
            return (word, "# a note\n" + sheet_of(claims), claims)
        return (word,)

    def test_against_a_plain_list_of_layers_and_deeds(self):
        counts = {"done": 0, "refused": 0, "undone": 0, "redone": 0}
        for seed in range(60):
            random = Maker(seed).random
            solver, plain = Solver(), Plain()
            for step in range(40):
                way = random.random()
                if way < 0.2:
                    if plain.past:
                        self.assertIsNone(solver.undo())
                        plain.undo()
                        counts["undone"] += 1
                    else:
                        self.assertIsInstance(raised_by(solver.undo), NothingToUndo)
                elif way < 0.35:
                    if plain.future:
                        self.assertIsNone(solver.redo())
                        plain.redo()
                        counts["redone"] += 1
                    else:
                        self.assertIsInstance(raised_by(solver.redo), NothingToRedo)
                else:
                    deed = self.made_deed(random, seed * 100 + step)
                    layers = plain.behind(deed)
                    handed = kept(deed[:2])
                    self.assertIs(is_deed(solver, handed), layers is not None, deed)
                    if layers is None:
                        error = raised_by(solver.do, handed)
                        self.assertIsInstance(error, InvalidDeed)
                        self.assertIs(error.value, handed)
                        counts["refused"] += 1
                    else:
                        self.assertIsNone(solver.do(handed))
                        plain.do(deed, layers)
                        counts["done"] += 1
                self.look_at(solver, plain)
        self.assertGreater(min(counts.values()), 60)

    def test_a_new_solver(self):
        solver = Solver()
        self.look_at(solver, Plain())
        self.assertEqual([solver.layers(), solver.claims(), solver.together(), solver.sheet()], [[[]], [], ("and",), ""])
        self.assertIsInstance(raised_by(solver.undo), NothingToUndo)
        self.assertIsInstance(raised_by(solver.redo), NothingToRedo)
        self.assertEqual([solver.met(5), solver.how_many(5), solver.widths(), solver.paper(), solver.sure(("and",))], [[], 1, ALL, None, ALL])
        self.assertIs(is_deed(solver, ("pop",)), False)
        self.assertIs(is_deed(solver, ("drop", 0)), False)

    def test_at_most_12_claims_9_layers_4_names(self):
        full = with_claims([TOP] * 12)
        for deed in (("claim", TOP), ("read", "top x\n"), ("claim", ("and",))):
            self.assertIs(is_deed(full, deed), False)
            self.assertIs(raised_by(full.do, deed).value, deed)
        for deed in (("read", ""), ("read", "# a\n"), ("push",), ("drop", 11)):
            self.assertIs(is_deed(full, deed), True)
        self.assertIs(is_deed(with_claims([TOP] * 9), ("read", "top x\n" * 3)), True)
        self.assertIs(is_deed(with_claims([TOP] * 9), ("read", "top x\n" * 4)), False)
        spread = done(*[("push",), ("claim", TOP)] * 6, *[("claim", TOP)] * 6)
        self.assertEqual([len(spread.claims()), is_deed(spread, ("claim", TOP)), is_deed(spread, ("push",))], [12, False, True])
        high = done(*[("push",)] * 8)
        self.assertEqual([len(high.layers()), is_deed(high, ("push",)), is_deed(high, ("claim", TOP))], [9, False, True])
        self.assertIsInstance(raised_by(high.do, ("push",)), InvalidDeed)
        high.do(("pop",))
        self.assertIs(is_deed(high, ("push",)), True)
        four = with_claims([("below", "a", "b"), ("below", "c", "d")])
        self.assertEqual([is_deed(four, ("claim", TOP)), is_deed(four, ("claim", ("some", "x", TOP))), is_deed(four, ("claim", ("top", "d")))],
                         [False, True, True])
        self.assertIs(is_deed(four, ("read", "top e\n")), False)
        # Five names in one claim alone are too many, too; claims below count with those on top.
        self.assertIs(is_deed(Solver(), ("claim", ("told", (5, [[0] * 32], [True]), ["a", "b", "c", "d", "e"]))), False)
        four.do(("push",))
        self.assertIs(is_deed(four, ("claim", TOP)), False)
        four.do(("pop",))
        four.do(("drop", 0))
        self.assertIs(is_deed(four, ("claim", TOP)), True)

    def test_what_is_no_deed(self):
        solver = done(("claim", TOP), ("push",), ("claim", ODD))
        solver.do(("claim", TWICE))
        solver.undo()
        before = solver.copy()
        wrong = [("claim",), ("claim", TOP, TOP), ("claim", "x"), ("claim", list(TOP)), ["claim", TOP], ("drop",), ("drop", 1), ("drop", -1),
                 ("drop", False), ("drop", "0"), ("drop", 0, 0), ("push", 1), ("pop", 1), ("read",), ("read", "top x"), ("read", "x\n"), ("read", 3),
                 ("read", None), ("read", ["top x"]), ("read", "top x\n", 1), ("read", "top x\nbit 0"), ("undo",), ("push"), "pop", (), ("",), (1,),
                 ("Push",), ("claim", ("sum", [(1, "x")], 0)), ("read", "#a"), ("read", "\n")]
        for value in wrong + [value for value, _ in POOL.entries if value not in (("push",), ("claim", TOP))]:
            self.assertIs(is_deed(solver, value), False, value)
            error = raised_by(solver.do, value)
            self.assertIsInstance(error, InvalidDeed)
            self.assertIs(error.value, value)
            self.assertEqual([solver == before, solver.layers(), solver.log()], [True, before.layers(), before.log()])
        # What is refused forgets nothing that was undone.
        solver.redo()
        self.assertEqual(solver.claims(), [TOP, ODD, TWICE])

    def test_what_is_no_solver(self):
        for value in POOL.wrong("solver"):
            for deed in (("push",), None):
                error = raised_by(is_deed, value, deed)
                self.assertIsInstance(error, InvalidDeed)
                self.assertIs(error.value, value)
        self.assertIs(is_deed(Solver(), Solver()), False)
        self.assertIs(is_deed(solver=Solver(), value=("push",)), True)

    def test_a_new_deed_forgets_what_was_undone(self):
        solver = with_claims([TOP, ODD, TWICE])
        solver.undo()
        solver.undo()
        solver.do(("push",))
        self.assertIsInstance(raised_by(solver.redo), NothingToRedo)
        self.assertEqual(solver.log(), [("claim", TOP), ("push",)])
        for _ in range(2):
            solver.undo()
        self.assertIsInstance(raised_by(solver.undo), NothingToUndo)
        for _ in range(2):
            solver.redo()
        self.assertEqual([solver.layers(), solver.log()], [[[TOP], []], [("claim", TOP), ("push",)]])

    def test_undone_drops_and_pops(self):
        solver = done(("claim", TOP), ("claim", ODD), ("push",), ("claim", TWICE), ("pop",), ("drop", 0))
        self.assertEqual(solver.layers(), [[ODD]])
        solver.undo()
        self.assertEqual(solver.layers(), [[TOP, ODD]])
        solver.undo()
        self.assertEqual(solver.layers(), [[TOP, ODD], [TWICE]])
        solver.redo()
        solver.redo()
        self.assertEqual(solver.layers(), [[ODD]])

    def test_what_is_handed_in_and_told_is_copied(self):
        claim = kept(TOLD)
        deed = ("claim", claim)
        solver = done(deed)
        claim[1][1][0][0] = 5
        claim[2][0] = "changed"
        self.assertEqual([solver.claims(), solver.log()], [[TOLD], [("claim", TOLD)]])
        for told in (solver.layers()[0][0], solver.claims()[0], solver.together()[1], solver.log()[0][1]):
            told[1][1][0][0] = 5
            told[2].append("y")
        solver.layers().append([TOP])
        solver.layers()[0].append(TOP)
        solver.claims().append(TOP)
        solver.names().append("z")
        solver.log().clear()
        self.assertEqual([solver.layers(), solver.log(), solver.names()], [[[TOLD]], [("claim", TOLD)], ["x"]])
        solver.undo()
        solver.redo()
        self.assertEqual(solver.claims(), [TOLD])


class EqualTest(unittest.TestCase):

    def test_layers_and_logs(self):
        self.assertIs(Solver() == Solver(), True)
        self.assertIs(Solver() != Solver(), False)
        one, other = with_claims([TOP, ODD]), with_claims([TOP, ODD])
        self.assertIs(one == other, True)
        other.undo()
        self.assertIs(one == other, False)
        # What was undone does not count.
        self.assertIs(other == with_claims([TOP]), True)
        other.redo()
        self.assertIs(one == other, True)
        self.assertIs(with_claims([ODD, TOP]) == one, False)
        # The same layers, come to by other deeds.
        self.assertIs(done(("read", "top x\nbit 0 x\n")) == one, False)
        self.assertIs(done(("claim", TOP), ("claim", ODD), ("push",), ("pop",)) == one, False)
        self.assertIs(done(("push",)) == Solver(), False)
        self.assertIs(done(("read", "")) == done(("read", "#\n")), False)
        for value, _ in POOL.entries + [([[]], set()), ([], set())]:
            self.assertIs(Solver() == value, False)
            self.assertIs(value == Solver(), False)
            self.assertIs(Solver() != value, True)

    def test_copies_go_their_own_way(self):
        solver = with_claims([TOP, TOLD, ODD])
        solver.undo()
        twin = solver.copy()
        self.assertIsInstance(twin, Solver)
        self.assertIsNot(twin, solver)
        self.assertIs(twin == solver, True)
        twin.redo()
        self.assertEqual([twin.claims(), solver.claims()], [[TOP, TOLD, ODD], [TOP, TOLD]])
        solver.redo()
        self.assertIs(twin == solver, True)
        for _ in range(3):
            twin.undo()
        self.assertIsInstance(raised_by(twin.undo), NothingToUndo)
        twin.do(("push",))
        self.assertIsInstance(raised_by(twin.redo), NothingToRedo)
        self.assertEqual([twin.layers(), solver.layers()], [[[], []], [[TOP, TOLD, ODD]]])
        solver.undo()
        again = solver.copy()
        solver.do(("claim", TWICE))
        again.redo()
        self.assertEqual([again.claims(), solver.claims()], [[TOP, TOLD, ODD], [TOP, TOLD, TWICE]])


class AnswersTest(unittest.TestCase):

    def test_against_holding_at_all_fillings(self):
        unmet = 0
        for claims in made_lists(range(700, 735), most=4):
            solver = done()
            for number, claim in enumerate(claims):
                solver.do(("push",) if number % 2 else ("read", "# a\n"))
                solver.do(("claim", claim))
            names = solver.names()
            before = kept([solver.layers(), solver.log()])
            asked = Maker(len(repr(claims)), ("x", "y")).claim(1, 0)
            every = sorted(set(names) | set(free_names(asked)))
            if raised_by(table_of, solver.together()) or raised_by(table_of, ("then", solver.together(), asked)):
                continue
            widths, sure, paper = solver.widths(), solver.sure(asked), solver.paper()
            for width in range(4):
                met = [filling for filling in fillings(names, width) if self.meets(width, claims, dict(filling))]
                self.assertEqual(solver.met(width), met[0] if met else None)
                self.assertEqual(solver.how_many(width), len(met))
                self.assertIs(has_width(widths, width), met != [])
                wanted = all(self.meets(width, [asked], dict(filling)) for filling in fillings(every, width) if self.meets(width, claims, dict(filling)))
                self.assertIs(has_width(sure, width), wanted)
            self.look_at_fresh(solver, claims, asked, [widths, sure, paper])
            self.assertEqual([solver.layers(), solver.log()], before)
            self.assertIs(paper is None, widths != NONE)
            if paper is not None:
                self.assertIs(is_no(solver.together(), paper), True)
                unmet += 1
        self.assertGreater(unmet, 5)

    def meets(self, width, claims, words):
        return all(plainly_holds(width, claim, {name: words[name] for name in free_names(claim)}) for claim in claims)

    def look_at_fresh(self, solver, claims, asked, told):
        fresh = with_claims(claims)
        self.assertEqual([fresh.widths(), fresh.sure(asked), fresh.paper()], told)
        self.assertEqual([fresh.met(60), fresh.how_many(60)], [solver.met(60), solver.how_many(60)])
        self.assertEqual(told[0], met_widths(solver.together()))
        self.assertEqual(told[1], sure_widths(("then", solver.together(), asked)))
        self.assertEqual(told[2], no_paper(solver.together()))
        self.assertTrue(have_new_lists([told, solver.widths(), solver.sure(asked), solver.paper(), solver.met(3)], solver.states))

    def answers(self, solver):
        return [solver.met(3), solver.met(64), solver.how_many(7), solver.widths(), solver.paper(), solver.sure(TOP)]

    def test_pushed_and_popped(self):
        solver = with_claims([TWICE])
        ahead = self.answers(solver)
        solver.do(("push",))
        solver.do(("claim", ("bit", 0, "y")))
        self.assertEqual([solver.met(3), solver.how_many(3), solver.widths()], [None, 0, NONE])
        self.assertNotEqual(self.answers(solver), ahead)
        solver.do(("pop",))
        self.assertEqual(self.answers(solver), ahead)
        solver.undo()
        self.assertEqual(solver.widths(), NONE)
        solver.redo()
        self.assertEqual(self.answers(solver), ahead)

    def test_more_claims_never_have_more(self):
        claims = [("below", "x", "y"), ("bit", 0, "x"), ("same", "z", ("plus", "x", "y")), ("top", "z"), ("below", "z", "x")]
        solver = done(("claim", ("and", *[("same", name, name) for name in "xyz"])))
        for claim in claims:
            many = [solver.how_many(width) for width in range(9)]
            solver.do(("claim", claim))
            self.assertTrue(all(less <= more for less, more in zip([solver.how_many(width) for width in range(9)], many)))
        self.assertEqual(solver.widths(), met_widths(("and", *claims)))

    def test_the_edges(self):
        never = with_claims([("or",)])
        self.assertEqual([never.met(0), never.how_many(64), never.widths(), never.sure(("or",))], [None, 0, NONE, ALL])
        self.assertIsNotNone(never.paper())
        free = with_claims([("same", "x", "x")])
        self.assertEqual([free.met(64), free.how_many(64), free.how_many(0), free.met(0)], [[("x", 0)], 2 ** 64, 1, [("x", 0)]])
        # The names of the claim that is asked for are free, too.
        self.assertEqual([free.sure(("top", "y")), free.sure(("same", "y", "y"))], [NONE, ALL])
        odd = with_claims([ODD])
        self.assertEqual([odd.met(5), odd.how_many(5), odd.widths(), odd.sure(ODD), odd.sure(("top", "x"))],
                         [[("x", 1)], 16, ([False], [True]), ALL, ([True, True], [False])])
        # The first filling is the first in order, not by rows.
        both = with_claims([("same", ("plus", "x", "y"), 3), ("not", ("same", "x", 0)), ("not", ("same", "y", 0))])
        self.assertEqual(both.met(2), [("x", 1), ("y", 2)])
        self.assertEqual(odd.met(width=5), odd.met(5))
        self.assertEqual([odd.how_many(width=5), odd.sure(claim=ODD)], [16, ALL])
        again = Solver()
        again.do(deed=("claim", ODD))
        self.assertEqual(again.claims(), [ODD])

    def test_errors(self):
        solver = with_claims(BIG + [TWICE])
        before = kept([solver.layers(), solver.log()])
        for width in (-1, 65, True, None, "3"):
            for method in (solver.met, solver.how_many):
                error = raised_by(method, width)
                self.assertEqual([error.__class__, error.value], [InvalidWidth, width])
        for wrong in POOL.wrong("claim"):
            error = raised_by(solver.sure, wrong)
            self.assertIsInstance(error, InvalidClaim)
            self.assertIs(error.value, wrong)
        for method, arguments in ((solver.met, [3]), (solver.how_many, [3]), (solver.widths, []), (solver.paper, []), (solver.sure, [TOP])):
            error = raised_by(method, *arguments)
            self.assertEqual([error.__class__, error.value], [TooMany, 2001])
        self.assertEqual([solver.layers(), solver.log()], before)
        solver.do(("drop", 0))
        self.assertEqual(solver.widths(), met_widths(("and", BIG[1], TWICE)))
        error = raised_by(with_claims([BIG[0]]).sure, BIG[1])
        self.assertEqual([error.__class__, error.value], [TooMany, 2001])

    def test_twelve_claims_with_four_names(self):
        claims = [("below", "a", "b"), ("below", "b", "c"), ("below", "c", "d"), ("bit", 0, "a"), ("bit", 1, "b"), ("top", "d"), ("not", ("top", "a")),
                  ("not", ("bit", 2, "c")), ("under", "d", "a"), ("not", ("same", "a", "c")), ("below", "a", 9), ("bit", 3, "d")]
        solver = done(("read", "".join(text_of_claim(claim) + "\n" for claim in claims)))
        self.assertEqual(solver.claims(), claims)
        first = next(filling for filling in fillings(["a", "b", "c", "d"], 4) if self.meets(4, claims, dict(filling)))
        self.assertEqual(solver.met(4), first)
        self.assertEqual(solver.widths(), ([False] * 4, [True]))


if __name__ == "__main__":
    unittest.main()
