"""Tables of the grains of a block."""

import unittest

from grainmeet.blocks import Block, PlainBlock
from grainmeet.tables import table
from samples import belongs, told_by


class Tables(unittest.TestCase):
    def test_the_empty_block(self):
        self.assertEqual(table(Block()), "")
        block = Block()
        block.apply(("mark", (0, 0, 0)))
        self.assertEqual(table(block), "")

    def test_lines(self):
        block = Block(limit=1000000)
        for name, halves in (("zz", (4, 2, 0, 0)), ("abcdefgh", (2, 0, 0, 0)), ("m", (0, 2, 2, 0)), ("n", (6, 4, 2, 0))):
            block.apply(("put", name, halves))
        self.assertEqual(table(block), (
            "abcdefgh        1   0 whole\n"
            "m               1   0 whole\n"
            "n               7   0 turned\n"
            "zz              5   0 turned\n"
        ))
        for point in ((0, 3, 4), (0, 0, 0), (1, 0, 0), (0, 1, 0), (7, 7, 7)):
            block.apply(("mark", point))
        before = told_by(block)
        self.assertEqual(table(block), (
            "abcdefgh        1   5 whole\n"
            "m               1   5 whole\n"
            f"n               7   {self.count(block, 'n')} turned\n"
            "zz              5   3 turned\n"
        ))
        self.assertEqual(told_by(block), before)

    def count(self, block, name):
        return len([point for point in block.marks() if belongs(block.grain(name).four, point)])

    def test_twelve_marks(self):
        block = PlainBlock()
        block.apply(("put", "a", (2, 0, 0, 0)))
        for at in range(12):
            block.apply(("mark", (at, 0, 0)))
        self.assertEqual(table(block), "a               1  12 whole\n")

    def test_long_spreads(self):
        for halves, line in (
            ((9998, 0, 0, 4), "a        24990005   0 turned\n"),
            ((20000, 2, 0, 0), "a        100000001   0 turned\n"),
            ((199999999998, 4, 0, 0), "a        9999999999800000000005   0 turned\n"),
        ):
            block = Block()
            block.apply(("put", "a", halves))
            self.assertEqual(table(block), line)

    def test_spreads_of_thousands_of_digits(self):
        block = Block()
        block.apply(("put", "a", (2 * 10 ** 3000, 2, 0, 0)))
        digits = "1" + "0" * 5999 + "1"
        self.assertEqual(table(block), f"a        {digits}   0 turned\n")

    def test_keyword(self):
        self.assertEqual(table(block=Block()), "")


if __name__ == "__main__":
    unittest.main()
