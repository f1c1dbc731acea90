"""[0.2] (a), [2.1]: what fair tells is a fair table."""

import unittest

from fairround.rounding import fair
from fairround.tables import down, is_fair
from tests.helper import SHAPES, Numbers, all_tables, is_fair_by_words, table_of


class FairTest(unittest.TestCase):
    def check(self, table, base):
        told = fair(table, base)
        self.assertTrue(is_fair_by_words(table, base, told), (table, base, told))
        self.assertIs(is_fair(table, base, told), True, (table, base, told))

    def check_all_shapes_and_bases(self, seed, bound):
        numbers = Numbers(seed)
        for shape in SHAPES:
            for base in range(1, 61):
                self.check(table_of(shape, lambda: numbers.below(bound(base))), base)

    def test_shares_below_one(self):
        self.check_all_shapes_and_bases(1, lambda base: base)

    def test_small_counts(self):
        self.check_all_shapes_and_bases(2, lambda base: 4)

    def test_shares_up_to_three(self):
        self.check_all_shapes_and_bases(3, lambda base: 3 * base + 1)

    def test_great_counts(self):
        self.check_all_shapes_and_bases(4, lambda base: 100001)

    def test_counts_beside_multiples_of_the_base(self):
        numbers = Numbers(5)
        for shape in SHAPES:
            for base in range(1, 61):
                self.check(table_of(shape, lambda: base * (1 + numbers.below(4)) - 1 + numbers.below(3)), base)

    def test_few_shares_that_are_not_whole(self):
        numbers = Numbers(6)
        for shape in SHAPES:
            for base in range(2, 61):
                self.check(table_of(shape, lambda: base + (numbers.below(4) == 0) * numbers.below(base)), base)

    def test_equal_counts(self):
        for shape in SHAPES:
            for base in range(1, 61):
                for count in (0, 1, base - 1, base, base + 1, 99999, 100000):
                    self.check(table_of(shape, lambda: count), base)

    def test_all_small_tables(self):
        for base in (1, 2, 3, 4, 5):
            for table in all_tables((2, 2), range(base + 1)):
                self.check(table, base)
        for base in (2, 3, 4, 7):
            for table in all_tables((3, 3), (0, 1)):
                self.check(table, base)
        for shape in ((2, 3), (3, 2)):
            for table in all_tables(shape, (0, 1, 2)):
                self.check(table, 3)

    def test_whole_shares_stay(self):
        numbers = Numbers(7)
        for shape in SHAPES:
            for base in range(1, 61):
                table = table_of(shape, lambda: base * numbers.below(1600))
                self.assertEqual(fair(table, base), down(table, base))

    def test_somewhat_beyond_the_bounds(self):
        numbers = Numbers(8)
        for shape in ((6, 6), (1, 7), (7, 1), (6, 2), (8, 8)):
            for base in (-7, -2, -1, 1, 2, 60, 61, 70):
                self.check(table_of(shape, lambda: numbers.below(100100) - 50), base)
        self.assertEqual(fair((), 5), ())
        self.assertEqual(fair(((),), 5), ((),))


class SameTest(unittest.TestCase):
    def test_the_same_is_told_again(self):
        numbers = Numbers(9)
        asked = [(table_of(shape, lambda: numbers.below(500)), 1 + numbers.below(60)) for shape in SHAPES]
        told = [fair(table, base) for table, base in asked]
        for (table, base), answer in reversed(list(zip(asked, told))):
            again = tuple(tuple(list(row)) for row in table)
            self.assertEqual(fair(again, base), answer)
            self.assertEqual(table, again)
