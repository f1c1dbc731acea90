"""[0.2] (c), [3.1], [3.2]: drawings are fair and add up to the counts, and how many of them have a share up."""

import unittest

from fairround.drawing import drawings, share_up
from fairround.tables import is_fair
from tests.helper import (
    SHAPES, Numbers, all_tables, is_fair_by_words, is_whole, put, same_table, table_of, varied_tables,
)


def added(tables, shape):
    """Tables of a shape added place by place."""
    return tuple(
        tuple(sum(table[row][pillar] for table in tables) for pillar in range(shape[1])) for row in range(shape[0])
    )


class DrawingTest(unittest.TestCase):
    def check(self, table, base):
        told = drawings(table, base)
        shape = (len(table), len(table[0]))
        self.assertIsInstance(told, tuple)
        self.assertEqual(len(told), base)
        # Many drawings are alike, and need be looked at once.
        for drawing in set(told):
            self.assertTrue(is_fair_by_words(table, base, drawing), (table, base, drawing))
            self.assertIs(is_fair(table, base, drawing), True, (table, base, drawing))
        self.assertTrue(all(is_whole(number) for drawing in told for row in drawing for number in row))
        self.assertEqual(added(told, shape), table, base)
        self.check_shares(table, base, told)

    def check_shares(self, table, base, told):
        for row, counts in enumerate(table):
            for pillar, count in enumerate(counts):
                low = put(count, base, False)
                above = sum(drawing[row][pillar] > low for drawing in told)
                number = share_up(table, base, row, pillar)
                self.assertTrue(is_whole(number))
                self.assertEqual(number, above, (table, base, row, pillar))

    def test_one_place(self):
        self.assertEqual(sorted(drawings(((7,),), 4)), [((1,),), ((2,),), ((2,),), ((2,),)])
        self.assertEqual(share_up(((7,),), 4, 0, 0), 3)

    def test_halves(self):
        self.assertEqual(sorted(drawings(((1, 1), (1, 1)), 2)), [((0, 1), (1, 0)), ((1, 0), (0, 1))])

    def test_base_one(self):
        table = ((0, 3), (4, 100000))
        self.assertEqual(drawings(table, 1), (table,))
        for row in (0, 1):
            for pillar in (0, 1):
                self.assertEqual(share_up(table, 1, row, pillar), 0)

    def test_base_sixty(self):
        table = ((0, 1, 59), (60, 61, 100000))
        self.check(table, 60)
        told = [[share_up(table, 60, row, pillar) for pillar in range(3)] for row in range(2)]
        self.assertEqual(told, [[0, 1, 59], [0, 1, 40]])

    def test_every_shape_and_every_base(self):
        numbers = Numbers(31)
        for shape in SHAPES:
            for base in range(1, 61):
                self.check(table_of(shape, lambda: numbers.below(2 * base)), base)

    def test_counts_of_many_kinds(self):
        for table, base in varied_tables(32, (1, 2, 3, 8, 27, 60)):
            self.check(table, base)

    def test_equal_counts(self):
        for shape in SHAPES:
            for base, count in ((1, 0), (2, 1), (3, 2), (25, 24), (60, 1), (60, 100000), (60, 0)):
                self.check(table_of(shape, lambda: count), base)

    def test_all_small_tables(self):
        for base in (1, 2, 3, 4):
            for table in all_tables((2, 2), range(base + 2)):
                self.check(table, base)
        for base in (2, 3, 5):
            for table in all_tables((3, 3), (0, 1)):
                self.check(table, base)

    def test_somewhat_beyond_the_bounds(self):
        numbers = Numbers(33)
        for shape in ((6, 6), (1, 7), (7, 1)):
            for base in (1, 7, 61, 70):
                self.check(table_of(shape, lambda: numbers.below(100100) - 50), base)
        for base in (0, -1, -7):
            self.assertEqual(drawings(((1, 2),), base), ())
            self.assertEqual(share_up(((1, 2),), base, 0, 1), 0)


class SameTest(unittest.TestCase):
    def test_the_same_is_told_again_and_nothing_is_changed(self):
        asked = list(varied_tables(34, (5, 60)))
        told = [(drawings(table, base), share_up(table, base, 0, 0)) for table, base in asked]
        for (table, base), answer in reversed(list(zip(asked, told))):
            before = same_table(table)
            self.assertEqual((drawings(before, base), share_up(before, base, 0, 0)), answer)
            self.assertEqual(table, before)
