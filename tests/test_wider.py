"""Promise 48: fillings made wider, and claims that they meet still."""

import unittest

from howeverwide.errors import InvalidClaim, InvalidFilling, InvalidText, InvalidWidth, TooMany
from howeverwide.meaning import holds
from howeverwide.wider import kept_wider, widened
from howeverwide.words import free_names, is_filling
from tests.support import POOL, Maker, fillings, have_new_lists, kept, plain_bits, plainly_holds, raised_by
from tests.test_building import counted, ring

WAYS = ("noughts", "top")


def plainly_widened(width, filling, way):
    """A filling made wider by writing its bits, and one more behind them."""
    wider = []
    for name, word in filling:
        bits = plain_bits(width, word)
        bits.append(bits[-1] if way == "top" and bits else 0)
        wider.append((name, sum(bit * 2 ** place for place, bit in enumerate(bits))))
    return wider


def first_lost(claim, way, most):
    """The first filling, at widths up to a greatest one, that meets a claim but not so once widened."""
    names = free_names(claim)
    for width in range(most + 1):
        for filling in fillings(names, width):
            wider = plainly_widened(width, filling, way)
            if plainly_holds(width, claim, dict(filling)) and not plainly_holds(width + 1, claim, dict(wider)):
                return width, filling
    return None


class WidenedTest(unittest.TestCase):

    def test_against_bits(self):
        for width in range(4):
            for names in ([], ["x"], ["a", "x2"]):
                for filling in fillings(names, width):
                    for way in WAYS:
                        before = kept(filling)
                        wider = widened(width, filling, way)
                        self.assertEqual(wider, plainly_widened(width, filling, way))
                        self.assertIs(is_filling(width + 1, names, wider), True)
                        self.assertIsNot(wider, filling)
                        self.assertEqual(filling, before)

    def test_the_edges(self):
        high = 2 ** 64 - 1
        self.assertEqual(widened(64, [("x", high), ("y", 2 ** 63 - 1)], "top"), [("x", 2 ** 65 - 1), ("y", 2 ** 63 - 1)])
        self.assertEqual(widened(64, [("x", high)], "noughts"), [("x", high)])
        self.assertEqual([widened(0, [("x", 0)], way) for way in WAYS], [[("x", 0)]] * 2)
        self.assertEqual([widened(7, [], way) for way in WAYS], [[], []])
        names = [f"a{number}" for number in range(1, 10)]
        self.assertEqual(widened(1, [(name, 1) for name in names], "top"), [(name, 3) for name in names])

    def test_errors(self):
        for width in (-1, 65, True, None):
            error = raised_by(widened, width, [("x", 0)], "top")
            self.assertEqual([error.__class__, error.value], [InvalidWidth, width])
            self.assertIsInstance(raised_by(widened, width, None, None), InvalidWidth)
        for wrong in (None, (("x", 1),), [["x", 1]], [("x", 4)], [("x", -1)], [("x", True)], [("y", 1), ("x", 1)], [("x", 1), ("x", 1)],
                      [("all", 1)], [("x", 1, 1)], [(1, 1)], [None], "x", {"x": 1}):
            for way in ("top", "tops"):
                error = raised_by(widened, 2, wrong, way)
                self.assertIsInstance(error, InvalidFilling, wrong)
                self.assertIs(error.value, wrong)
        for way in ("tops", "", None, 0, ["top"], ("top",)):
            error = raised_by(widened, 2, [("x", 1)], way)
            self.assertIsInstance(error, InvalidText)
            self.assertIs(error.value, way)


class KeptWiderTest(unittest.TestCase):

    def test_against_holding_at_small_widths(self):
        found = {"kept": 0, "lost": 0}
        for seed in range(220):
            claim = Maker(seed, ("x", "y")).claim(2, 1)
            before = kept(claim)
            for way in WAYS:
                try:
                    told = kept_wider(claim, way)
                except TooMany:
                    continue
                self.assertEqual(claim, before)
                lost = first_lost(claim, way, 2)
                found["kept" if told is None else "lost"] += 1
                if told is None or told[0] > 2:
                    self.assertIsNone(lost)
                else:
                    self.assertEqual(told, lost)
                if told is not None:
                    self.assertTrue(have_new_lists([told, kept_wider(claim, way)], claim))
        self.assertGreater(min(found.values()), 100)

    def test_three_names(self):
        for seed in range(40):
            claim = Maker(seed, ("x", "y", "z")).claim(2, 0)
            for way in WAYS:
                told = kept_wider(claim, way)
                self.assertEqual(None if told is None or told[0] > 1 else told, first_lost(claim, way, 1), claim)

    def test_first_in_order_of_fillings_and_not_by_rows(self):
        # By rows 2, 1 comes ahead of 1, 2, as the lowest bits come first: the filling with the lesser x is the first.
        claim = ("and", ("same", ("plus", "x", "y"), 3), ("not", ("same", "x", "y")), ("same", 4, 0), ("not", ("same", 2, 0)))
        self.assertEqual(kept_wider(claim, "noughts"), (2, [("x", 0), ("y", 3)]))
        claim = ("and", ("same", ("plus", "x", "y"), 3), ("not", ("same", "x", 0)), ("not", ("same", "y", 0)), ("same", 4, 0), ("not", ("same", 2, 0)))
        self.assertEqual([kept_wider(claim, way) for way in WAYS], [(2, [("x", 1), ("y", 2)])] * 2)

    def test_the_edges(self):
        zero = ("same", 1, 0)
        self.assertEqual([kept_wider(zero, way) for way in WAYS], [(0, [])] * 2)
        self.assertEqual([kept_wider(("and", zero, ("same", "x", "y")), way) for way in WAYS], [(0, [("x", 0), ("y", 0)])] * 2)
        self.assertEqual([kept_wider(("and",), way) for way in WAYS], [None, None])
        self.assertEqual([kept_wider(("below", "x", "x"), way) for way in WAYS], [None, None])
        self.assertEqual([kept_wider(("top", "x"), way) for way in WAYS], [(1, [("x", 1)]), None])
        self.assertEqual([kept_wider(("not", ("top", "x")), way) for way in WAYS], [None, None])
        self.assertEqual([kept_wider(("under", "x", "y"), way) for way in WAYS], [(1, [("x", 1), ("y", 0)]), None])
        self.assertEqual([kept_wider(("told", (0, [[1], [2], [0]], [False, True, True]), []), way) for way in WAYS], [(2, [])] * 2)
        # At the width 0 the new top bit is 0 for either way.
        self.assertEqual([kept_wider(("not", ("bit", 0, "x")), way) for way in WAYS], [None, None])

    def test_what_is_kept_is_kept_any_number_of_times(self):
        for claim in (("below", "x", "y"), ("under", "x", "y"), ("same", ("plus", "x", "y"), "z"), ("bit", 2, "x")):
            for way in WAYS:
                if kept_wider(claim, way) is not None:
                    continue
                for filling in fillings(free_names(claim), 2):
                    width, wider = 2, filling
                    for _ in range(5):
                        if holds(2, claim, filling):
                            self.assertIs(holds(width, claim, wider), True)
                        width, wider = width + 1, widened(width, wider, way)

    def test_far_widths(self):
        told = ring(170, 2, 169)
        self.assertEqual(kept_wider(told, "noughts"), (169, [("a", 0), ("b", 0)]))
        self.assertEqual(kept_wider(told, "top"), (169, [("a", 0), ("b", 0)]))
        width, filling = kept_wider(counted(90), "noughts")
        self.assertEqual([width, filling], [91 - 1, [("x", 1), ("y", 1)]])

    def test_errors(self):
        for wrong in POOL.wrong("claim")[:40]:
            self.assertIs(raised_by(kept_wider, wrong, "tops").value, wrong)
            self.assertIsInstance(raised_by(kept_wider, wrong, "tops"), InvalidClaim)
        big = ("and", ring(43, 1), ring(47, 1))
        for way in ("tops", None, 3, ("top",)):
            error = raised_by(kept_wider, big, way)
            self.assertIsInstance(error, InvalidText)
            self.assertIs(error.value, way)
        for way in WAYS:
            error = raised_by(kept_wider, big, way)
            self.assertEqual([error.__class__, error.value], [TooMany, 2001])


if __name__ == "__main__":
    unittest.main()
