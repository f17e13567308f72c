"""Every example of the document, with just the answers that it shows."""

import os
import re
import unittest

EXAMPLES = os.path.join(os.path.dirname(os.path.abspath(__file__)), "examples.md")


def blocks():
    with open(EXAMPLES, encoding="utf-8") as file:
        return re.findall(r"```\n(.*?)```", file.read(), re.S)


def rows_with_answers(block):
    """Each row of a block with the row of its answer, None where none stands below it."""
    rows = block.splitlines()
    for row, below in zip(rows, rows[1:] + [""]):
        if not row.startswith("# "):
            yield row, below[2:] if below.startswith("# ") else None


class DocumentTest(unittest.TestCase):

    def test_every_example(self):
        answered = 0
        for block in blocks():
            known = {}
            for row, answer in rows_with_answers(block):
                if answer is None:
                    exec(row, known)
                    continue
                told, wanted = eval(row, known), eval(answer)
                self.assertEqual(told, wanted, row)
                # True is equal to 1, but not written so.
                self.assertEqual(repr(told), repr(wanted), row)
                answered += 1
        self.assertEqual([len(blocks()), answered], [14, 70])

    def test_answers_stand_behind_what_is_told(self):
        for block in blocks():
            self.assertEqual([row for row, answer in rows_with_answers(block) if row.startswith("[") and answer is None], [])


if __name__ == "__main__":
    unittest.main()
