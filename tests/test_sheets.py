"""Promise 77: sheets of claims."""

import unittest

from howeverwide.errors import InvalidClaims, InvalidText
from howeverwide.sheets import claims_of_sheet, good_part, sheet_of
from howeverwide.texts import text_of_claim
from tests.support import POOL, Maker, have_new_lists, kept, raised_by

ANY_SIGN = "".join(chr(number) for number in range(32, 127)) + "\t"
TOLD = ("told", (1, [[0, 1], [1, 0]], [True, False]), ["x"])


def made_sheet(seed):
    """Some claims, and a sheet of them with notes between."""
    maker = Maker(seed)
    claims = [maker.claim(2, 1) for _ in range(maker.random.randint(0, 5))]
    lines = []
    for claim in claims:
        while maker.random.random() < 0.4:
            lines.append("#" + "".join(maker.random.choice(ANY_SIGN) for _ in range(maker.random.randint(0, 9))))
        lines.append(text_of_claim(claim))
    return claims, lines


def plain_part(lines, text):
    """How many of the first characters of a text are whole lines, as they were written, of a sheet."""
    many = 0
    for line in lines:
        if text[many:many + len(line) + 1] != line + "\n":
            return many
        many += len(line) + 1
    return many


class SheetsTest(unittest.TestCase):

    def test_there_and_back(self):
        for seed in range(80):
            claims, lines = made_sheet(seed)
            before = kept(claims)
            sheet = sheet_of(claims)
            self.assertEqual(sheet, "".join(text_of_claim(claim) + "\n" for claim in claims))
            self.assertEqual([claims, claims_of_sheet(sheet), good_part(sheet)], [before, claims, (claims, len(sheet))])
            noted = "".join(line + "\n" for line in lines)
            self.assertEqual([claims_of_sheet(noted), good_part(noted)], [claims, (claims, len(noted))])
            self.assertTrue(have_new_lists([claims_of_sheet(noted), claims_of_sheet(noted), good_part(noted)], claims))

    def test_cut_at_every_place(self):
        for seed in range(12):
            claims, lines = made_sheet(seed)
            sheet = "".join(line + "\n" for line in lines)
            for place in range(len(sheet) + 1):
                torn = sheet[:place]
                many = plain_part(lines, torn)
                told = claims_of_sheet(sheet[:many])
                self.assertEqual(good_part(torn), (told, many))
                self.assertEqual(told, claims[:len(told)])
                if many < len(torn):
                    error = raised_by(claims_of_sheet, torn)
                    self.assertIsInstance(error, InvalidText)
                    self.assertIs(error.value, torn)

    def test_written_over_at_every_place(self):
        for seed in range(5):
            claims, lines = made_sheet(seed + 100)
            sheet = "".join(line + "\n" for line in lines)
            for place in range(len(sheet)):
                for sign in "x0#[\n ~":
                    over = sheet[:place] + sign + sheet[place + 1:]
                    read, many = good_part(over)
                    # All lines ahead of the one that is written over can be read.
                    ahead = sheet[:place].rfind("\n") + 1
                    self.assertGreaterEqual(many, ahead)
                    self.assertEqual(read[:len(claims_of_sheet(sheet[:ahead]))], claims_of_sheet(sheet[:ahead]))
                    self.assertEqual(claims_of_sheet(over[:many]), read)
                    self.assertTrue(many == 0 or over[many - 1] == "\n")
                    end = over.find("\n", many)
                    if end >= 0:
                        self.assertIsInstance(raised_by(claims_of_sheet, over[:end + 1]), InvalidText)
                    self.assertIs(raised_by(claims_of_sheet, over) is None, many == len(over))

    def test_the_edges(self):
        self.assertEqual([sheet_of([]), claims_of_sheet(""), good_part("")], ["", [], ([], 0)])
        self.assertEqual([claims_of_sheet("#\n"), good_part("#\n# a\n#~\t \n")], [[], ([], 11)])
        self.assertEqual([good_part("#"), good_part("# a"), good_part("\n"), good_part("\n#\n"), good_part(" \n")], [([], 0)] * 5)
        self.assertEqual([good_part("and\n\nor\n"), good_part("and\n#"), good_part("and\nor")], [([("and",)], 4)] * 3)
        self.assertEqual(good_part("and\nor\nx\nor\n"), ([("and",), ("or",)], 7))
        self.assertEqual([good_part("and \n"), good_part(" and\n"), good_part("and\r\n"), good_part(" # a\n")], [([], 0)] * 4)
        self.assertEqual([good_part("# a\r\n"), good_part("#" + chr(233) + "\n"), good_part("#" + chr(127) + "\n")], [([], 0)] * 3)
        self.assertEqual([good_part("top x#\n"), good_part("top x # a\n")], [([], 0)] * 2)
        self.assertEqual(claims_of_sheet("#" + ANY_SIGN + "\ntop x\n"), [("top", "x")])
        self.assertEqual(sheet_of([TOLD, TOLD]), "told 1:0,1/1,0:10 x\n" * 2)
        self.assertTrue(have_new_lists(claims_of_sheet(sheet_of([TOLD, TOLD])), TOLD))
        twelve = [TOLD] * 12
        self.assertEqual(claims_of_sheet(sheet_of(twelve)), twelve)
        self.assertEqual(claims_of_sheet(sheet_of(twelve + twelve)), twelve + twelve)

    def test_sheets_of_4000_characters(self):
        for line in ("top x", "#" * 80, "(((x + y) + z) - 5) = !(x << 3)", "[" * 20, "some x [" * 20 + "top x" + "]" * 20, "and" + " [or]" * 90):
            sheet = (line + "\n") * (4000 // (len(line) + 1))
            read, many = good_part(sheet)
            self.assertIn(many, (0, len(sheet)))
            self.assertEqual(sheet_of(read), "" if line[0] in "#[" else sheet)
        self.assertEqual(good_part("(" * 4000), ([], 0))
        self.assertEqual(good_part("(" * 3999 + "\n"), ([], 0))
        self.assertEqual(good_part("\n" * 4000), ([], 0))

    def test_errors(self):
        for value, kinds in POOL.entries:
            if "claims" not in kinds and "row of claims" not in kinds:
                error = raised_by(sheet_of, value)
                self.assertIsInstance(error, InvalidClaims)
                self.assertIs(error.value, value)
            if not isinstance(value, str):
                for function in (claims_of_sheet, good_part):
                    error = raised_by(function, value)
                    self.assertIsInstance(error, InvalidText)
                    self.assertIs(error.value, value)
            elif not value.startswith("# a") and not value.startswith("top x"):
                self.assertEqual(good_part(value), ([], 0))
                self.assertIs(raised_by(claims_of_sheet, value) is None, value == "")
        for text in ("top x", "x\n", "\n", "top x\n\n", "top x\n# a", "and\nor \n"):
            error = raised_by(claims_of_sheet, text)
            self.assertIsInstance(error, InvalidText)
            self.assertIs(error.value, text)


if __name__ == "__main__":
    unittest.main()
