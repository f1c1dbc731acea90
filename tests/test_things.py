"""[0.3], [0.4], [1.1]: which things are tables and bases."""

import copy
import unittest

from fairround.tables import is_base, is_table
from tests.helper import SHAPES, nested, odd_things, table_of


class BaseTest(unittest.TestCase):
    def test_every_base(self):
        for base in range(1, 61):
            self.assertIs(is_base(base), True, base)

    def test_beyond_the_bounds(self):
        for thing in (0, -1, -60, 61, 62, 100000, 10**30, -10**30):
            self.assertIs(is_base(thing), False, thing)

    def test_truths_are_no_bases(self):
        self.assertIs(is_base(True), False)
        self.assertIs(is_base(False), False)

    def test_odd_things(self):
        for thing in odd_things() + [(1,), ((1,),), "5", (60,)]:
            self.assertIs(is_base(thing), False, thing)


class TableTest(unittest.TestCase):
    def test_ordinary_tables(self):
        for thing in (((1, 2), (3, 4)), ((7, 0, 12),), ((5,), (6,), (7,))):
            self.assertIs(is_table(thing), True, thing)

    def test_every_shape_with_counts_at_the_bounds(self):
        for shape in SHAPES:
            for count in (0, 1, 99999, 100000):
                thing = table_of(shape, lambda: count)
                self.assertIs(is_table(thing), True, thing)

    def test_too_many_rows(self):
        for rows in (6, 7, 40):
            self.assertIs(is_table(((1, 2),) * rows), False, rows)

    def test_too_many_counts(self):
        for places in (6, 7, 40):
            self.assertIs(is_table(((1,) * places,)), False, places)
            self.assertIs(is_table(((1,) * places,) * 5), False, places)

    def test_empty(self):
        for thing in ((), ((),), ((), ()), ((1,), ()), ((), (1,))):
            self.assertIs(is_table(thing), False, thing)

    def test_counts_beyond_the_bounds(self):
        for count in (-1, -100000, 100001, 100002, 10**30):
            for thing in (((count,),), ((1, count), (2, 3)), ((1, 2), (3, count))):
                self.assertIs(is_table(thing), False, thing)

    def test_rows_not_equally_long(self):
        for thing in (((1, 2), (3,)), ((1,), (2, 3)), ((1,), (2,), (3, 4)), ((1, 2, 3), (1, 2, 3), (1, 2))):
            self.assertIs(is_table(thing), False, thing)

    def test_other_things_in_the_place_of_a_count(self):
        for part in (True, False, None, "", "1", [1], (1,), [], (), nested(1, 28, tuple)):
            for thing in (((part,),), ((part, 1), (1, 1)), ((1, 1), (1, part))):
                self.assertIs(is_table(thing), False, thing)

    def test_other_things_in_the_place_of_a_row(self):
        for part in (True, False, None, "", "1", "12", 1, 0, [1], [1, 2], nested(1, 29, list)):
            for thing in ((part,), (part, (1,)), ((1,), part), ((1, 2), part)):
                self.assertIs(is_table(thing), False, thing)

    def test_lists_in_the_place_of_tuples(self):
        for thing in ([(1, 2), (3, 4)], ([1, 2], [3, 4]), ((1, 2), [3, 4]), ([1, 2], (3, 4)), [[1, 2], [3, 4]]):
            self.assertIs(is_table(thing), False, thing)

    def test_odd_things(self):
        for thing in odd_things() + [0, 1, 5, -1, 100000, (1,), (1, 2)]:
            self.assertIs(is_table(thing), False, thing)


class SameTest(unittest.TestCase):
    def test_nothing_is_changed_and_the_same_is_told_again(self):
        for thing in odd_things() + [5, ((1, 2), (3, 4)), [[1, 2], [3, 4]], ([1, 2], [3, 4])]:
            before = copy.deepcopy(thing)
            told = (is_table(thing), is_base(thing))
            self.assertEqual(thing, before)
            self.assertEqual((is_table(thing), is_base(thing)), told)
