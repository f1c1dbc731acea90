"""[0.5], [1.2]: shares put down and up, and sums."""

import math
import unittest
from fractions import Fraction

from fairround.tables import down, sums, up
from tests.helper import SHAPES, Numbers, is_whole, table_of


def each(table, told):
    """Each count of a table with what is told in its place."""
    return [pair for row, numbers in zip(table, told, strict=True) for pair in zip(row, numbers, strict=True)]


class DownAndUpTest(unittest.TestCase):
    def test_shares_that_are_whole(self):
        table = ((0, 4, 8), (12, 400, 100000))
        self.assertEqual(down(table, 4), ((0, 1, 2), (3, 100, 25000)))
        self.assertEqual(up(table, 4), ((0, 1, 2), (3, 100, 25000)))

    def test_shares_that_are_not_whole(self):
        table = ((1, 2, 3), (5, 7, 99999))
        self.assertEqual(down(table, 4), ((0, 0, 0), (1, 1, 24999)))
        self.assertEqual(up(table, 4), ((1, 1, 1), (2, 2, 25000)))

    def test_base_one(self):
        table = ((0, 1), (2, 100000))
        self.assertEqual(down(table, 1), table)
        self.assertEqual(up(table, 1), table)

    def test_base_sixty(self):
        table = ((0, 1, 59, 60, 61), (119, 120, 121, 99999, 100000))
        self.assertEqual(down(table, 60), ((0, 0, 0, 1, 1), (1, 2, 2, 1666, 1666)))
        self.assertEqual(up(table, 60), ((0, 1, 1, 1, 2), (2, 2, 3, 1667, 1667)))

    def test_every_base(self):
        for base in range(1, 61):
            table = (tuple(range(2 * base + 2)),)
            for count, number in each(table, down(table, base)):
                self.assertEqual(number, math.floor(Fraction(count, base)))
            for count, number in each(table, up(table, base)):
                self.assertEqual(number, math.ceil(Fraction(count, base)))

    def test_somewhat_beyond_the_bounds(self):
        table = ((-1, -61, 100001, 0, 1, 2),) * 6
        self.assertEqual(down(table, 61), ((-1, -1, 1639, 0, 0, 0),) * 6)
        self.assertEqual(up(table, 61), ((0, -1, 1640, 0, 1, 1),) * 6)
        self.assertEqual(down((), 5), ())
        self.assertEqual(up(((),), 5), ((),))


class SumsTest(unittest.TestCase):
    def test_one_place(self):
        self.assertEqual(sums(((7,),)), ((7,), (7,), 7))

    def test_one_row(self):
        self.assertEqual(sums(((1, 20, 300),)), ((321,), (1, 20, 300), 321))

    def test_one_pillar(self):
        self.assertEqual(sums(((1,), (20,), (300,))), ((1, 20, 300), (321,), 321))

    def test_rows_and_pillars(self):
        self.assertEqual(sums(((1, 2, 4), (10, 20, 40))), ((7, 70), (11, 22, 44), 77))

    def test_greatest(self):
        self.assertEqual(sums(((100000,) * 5,) * 5), ((500000,) * 5, (500000,) * 5, 2500000))

    def test_somewhat_beyond_the_bounds(self):
        self.assertEqual(sums(((1, -2),) * 6), ((-1,) * 6, (6, -12), -6))
        self.assertEqual(sums(()), ((), (), 0))


class KindTest(unittest.TestCase):
    def test_tuples_of_whole_numbers_of_the_same_shape(self):
        numbers = Numbers(1)
        for shape in SHAPES:
            table = table_of(shape, lambda: numbers.below(200))
            for told in (down(table, 7), up(table, 7)):
                self.assertIsInstance(told, tuple)
                self.assertTrue(all(isinstance(row, tuple) for row in told))
                self.assertTrue(all(is_whole(number) for pair in each(table, told) for number in pair))
            told = sums(table)
            self.assertIsInstance(told, tuple)
            self.assertEqual((len(told), len(told[0]), len(told[1])), (3,) + shape)
            self.assertIsInstance(told[0], tuple)
            self.assertIsInstance(told[1], tuple)

    def test_the_same_is_told_again(self):
        numbers = Numbers(2)
        for shape in SHAPES:
            table = table_of(shape, lambda: numbers.below(200))
            told = (down(table, 7), up(table, 7), sums(table))
            again = tuple(tuple(list(row)) for row in table)
            self.assertEqual((down(again, 7), up(again, 7), sums(again)), told)
