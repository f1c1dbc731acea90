"""[0.6], [1.3]: which things are fair tables of a table."""

import copy
import unittest

from fairround.tables import is_fair
from tests.helper import (
    SHAPES, all_tables, is_fair_by_words, is_rounded, lines_of, nested, odd_things, table_of,
)

THIRDS = ((1, 1), (1, 1))
PARTS = (True, False, None, "", "0", "1", [], [0], (), (0,), nested(0, 28, tuple), nested(0, 28, list))


def with_place(table, row, place, part):
    """A table with another part at a place."""
    changed = [list(line) for line in table]
    changed[row][place] = part
    return tuple(tuple(line) for line in changed)


class FairTest(unittest.TestCase):
    def test_fair_tables(self):
        for thing in (((1, 0), (0, 1)), ((0, 1), (1, 0)), ((1, 0), (0, 0)), ((0, 0), (0, 1))):
            self.assertIs(is_fair(THIRDS, 3, thing), True, thing)

    def test_whole_shares_have_one_fair_table(self):
        table = ((0, 5), (10, 100000))
        fair_one = ((0, 1), (2, 20000))
        self.assertIs(is_fair(table, 5, fair_one), True)
        for row in (0, 1):
            for place in (0, 1):
                for step in (-1, 1):
                    thing = with_place(fair_one, row, place, fair_one[row][place] + step)
                    self.assertIs(is_fair(table, 5, thing), False, thing)

    def test_base_one_and_sixty(self):
        self.assertIs(is_fair(((0, 3), (4, 100000)), 1, ((0, 3), (4, 100000))), True)
        self.assertIs(is_fair(((59, 1), (1, 59)), 60, ((1, 0), (0, 1))), True)
        self.assertIs(is_fair(((59, 1), (1, 59)), 60, ((0, 1), (1, 0))), True)
        self.assertIs(is_fair(((59, 1), (1, 59)), 60, ((1, 0), (1, 0))), False)

    def test_greatest_table(self):
        table = ((100000,) * 5,) * 5
        self.assertIs(is_fair(table, 50, ((2000,) * 5,) * 5), True)
        self.assertIs(is_fair(table, 60, ((1666,) * 5,) * 5), False)

    def test_all_small_things_by_the_words(self):
        for base in (1, 2, 3, 4):
            for table in all_tables((2, 2), (0, 1, 3)):
                for thing in all_tables((2, 2), range(-1, 3)):
                    self.assertIs(is_fair(table, base, thing), is_fair_by_words(table, base, thing), (table, thing))

    def test_all_rows_and_pillars_by_the_words(self):
        for shape in ((1, 3), (3, 1)):
            for table in all_tables(shape, range(4)):
                for thing in all_tables(shape, range(-1, 3)):
                    self.assertIs(is_fair(table, 3, thing), is_fair_by_words(table, 3, thing), (table, thing))


class OnePartBrokenTest(unittest.TestCase):
    def check(self, table, base, thing, broken):
        """The thing is not fair, and for this one reason."""
        pairs = zip(lines_of(table), lines_of(thing), strict=True)
        found = [counts for counts, numbers in pairs if not is_rounded(sum(counts), base, sum(numbers))]
        self.assertEqual(found, [broken])
        self.assertIs(is_fair(table, base, thing), False, thing)

    def test_one_share(self):
        self.check(((1, 1), (1, 1)), 4, ((-1, 1), (1, 0)), (1,))
        self.check(((3, 3), (3, 3)), 4, ((1, 0), (0, 2)), (3,))

    def test_one_rows_sum(self):
        self.check(THIRDS, 3, ((1, 1), (0, 0)), (1, 1))
        self.check(THIRDS, 3, ((0, 0), (1, 1)), (1, 1))

    def test_one_pillars_sum(self):
        self.check(THIRDS, 3, ((1, 0), (1, 0)), (1, 1))
        self.check(THIRDS, 3, ((0, 1), (0, 1)), (1, 1))

    def test_the_sum_of_all_places(self):
        sixths = ((1, 1, 1),) * 3
        self.assertIs(is_fair(sixths, 6, ((1, 0, 0), (0, 1, 0), (0, 0, 0))), True)
        self.assertIs(is_fair(sixths, 6, ((1, 0, 0), (0, 0, 0), (0, 0, 0))), True)
        self.check(sixths, 6, ((1, 0, 0), (0, 1, 0), (0, 0, 1)), (1,) * 9)
        self.check(sixths, 6, ((0, 0, 0), (0, 0, 0), (0, 0, 0)), (1,) * 9)


class ShapeTest(unittest.TestCase):
    def test_too_few_or_too_many_rows_or_places(self):
        for shape in SHAPES:
            table = table_of(shape, lambda: 0)
            self.assertIs(is_fair(table, 7, table), True)
            row = (0,) * shape[1]
            more = (row + (0,),)
            less = (row[1:],)
            for thing in (
                table[1:], table + (row,), (), table * 2,
                table[1:] + more, more + table[1:], more * shape[0],
                table[1:] + less, less + table[1:], less * shape[0], ((),) * shape[0],
            ):
                self.assertIs(is_fair(table, 7, thing), False, (table, thing))

    def test_pillars_as_rows(self):
        self.assertIs(is_fair(((0, 0, 0), (0, 0, 0)), 7, ((0, 0), (0, 0), (0, 0))), False)


class OtherThingsTest(unittest.TestCase):
    def test_in_the_place_of_a_number(self):
        for part in PARTS:
            for row in (0, 1):
                for place in (0, 1):
                    thing = with_place(((1, 0), (0, 1)), row, place, part)
                    self.assertIs(is_fair(THIRDS, 3, thing), False, thing)

    def test_in_the_place_of_a_row(self):
        for part in PARTS + (0, 1, [1, 0], [0, 1], "10", (True, False), ("1", "0")):
            for thing in ((part, (0, 1)), ((1, 0), part), (part, part)):
                self.assertIs(is_fair(THIRDS, 3, thing), False, thing)

    def test_in_the_place_of_the_whole(self):
        for thing in list(PARTS) + odd_things() + [0, 1, [(1, 0), (0, 1)], [[1, 0], [0, 1]], ([1, 0], [0, 1])]:
            self.assertIs(is_fair(THIRDS, 3, thing), False, thing)

    def test_of_one_place(self):
        for thing in odd_things() + [1, 0, [(1,)], ([1],), ((True,),), ((False,),)]:
            self.assertIs(is_fair(((1,),), 2, thing), False, thing)
        self.assertIs(is_fair(((1,),), 2, ((1,),)), True)
        self.assertIs(is_fair(((1,),), 2, ((0,),)), True)


class SameTest(unittest.TestCase):
    def test_nothing_is_changed_and_the_same_is_told_again(self):
        for thing in odd_things() + [((1, 0), (0, 1)), [[1, 0], [0, 1]], ((1, 1), (0, 0))]:
            before = copy.deepcopy(thing)
            told = is_fair(THIRDS, 3, thing)
            self.assertEqual(thing, before)
            self.assertIs(is_fair(THIRDS, 3, thing), told)
