"""[0.2] (b), [2.2]: a fair table in which one share, or one sum, is up, or down."""

import unittest

from fairround.choosing import fair_where
from fairround.tables import is_fair
from tests.helper import SHAPES, Numbers, all_tables, is_fair_by_words, put, same_table, table_of, varied_tables


def sum_at(table, kind, at):
    """The share of a place, or the sum of a row, a pillar or the whole, apart from the program."""
    if kind == "place":
        return table[at[0]][at[1]]
    if kind == "row":
        return sum(table[at])
    if kind == "pillar":
        return sum(row[at] for row in table)
    return sum(sum(row) for row in table)


def choices(table):
    """Every kind and place that may be asked of a table."""
    width = len(table[0])
    return (
        [("place", (row, pillar)) for row in range(len(table)) for pillar in range(width)]
        + [("row", row) for row in range(len(table))]
        + [("pillar", pillar) for pillar in range(width)]
        + [("whole", None)]
    )


class ChoosingTest(unittest.TestCase):
    def check(self, table, base, kind, at, upward):
        asked = (table, base, kind, at, upward)
        told = fair_where(table, base, kind, at, upward)
        self.assertTrue(is_fair_by_words(table, base, told), (asked, told))
        self.assertIs(is_fair(table, base, told), True, (asked, told))
        self.assertEqual(sum_at(told, kind, at), put(sum_at(table, kind, at), base, upward), (asked, told))

    def check_every_choice(self, table, base):
        for kind, at in choices(table):
            for upward in (True, False):
                self.check(table, base, kind, at, upward)

    def test_one_place(self):
        for kind, at in (("place", (0, 0)), ("row", 0), ("pillar", 0), ("whole", None)):
            self.assertEqual(fair_where(((7,),), 4, kind, at, True), ((2,),))
            self.assertEqual(fair_where(((7,),), 4, kind, at, False), ((1,),))
            self.assertEqual(fair_where(((8,),), 4, kind, at, True), ((2,),))
            self.assertEqual(fair_where(((8,),), 4, kind, at, False), ((2,),))

    def test_one_fair_table_alone_has_it(self):
        halves = ((1, 1), (1, 1))
        self.assertEqual(fair_where(halves, 2, "place", (0, 0), True), ((1, 0), (0, 1)))
        self.assertEqual(fair_where(halves, 2, "place", (0, 0), False), ((0, 1), (1, 0)))
        self.assertEqual(fair_where(halves, 2, "place", (1, 0), True), ((0, 1), (1, 0)))
        self.assertEqual(fair_where(halves, 2, "place", (0, 1), False), ((1, 0), (0, 1)))

    def test_every_shape_and_every_base(self):
        numbers = Numbers(21)
        for shape in SHAPES:
            for base in range(1, 61):
                if base % 5 == sum(shape) % 5 or base in (1, 2, 60):
                    self.check_every_choice(table_of(shape, lambda: numbers.below(2 * base)), base)

    def test_counts_of_many_kinds(self):
        for table, base in varied_tables(22, (2, 3, 7, 59)):
            self.check_every_choice(table, base)

    def test_equal_counts(self):
        for shape in SHAPES:
            for base, count in ((2, 1), (3, 1), (25, 24), (59, 1), (60, 99999), (60, 100000), (7, 0)):
                self.check_every_choice(table_of(shape, lambda: count), base)

    def test_all_small_tables(self):
        for base in (1, 2, 3, 4):
            for table in all_tables((2, 2), range(base + 1)):
                self.check_every_choice(table, base)
        for base in (2, 3, 7):
            for table in all_tables((2, 3), (0, 1)):
                self.check_every_choice(table, base)

    def test_whole_shares_are_both_up_and_down(self):
        numbers = Numbers(23)
        for shape in SHAPES:
            for base in (1, 2, 30, 60):
                self.check_every_choice(table_of(shape, lambda: base * numbers.below(1600)), base)

    def test_whole_sums_of_broken_shares(self):
        # Each row and each pillar, and so the whole, adds up to 1.
        for size in range(2, 6):
            self.check_every_choice(((1,) * size,) * size, size)

    def test_two_parts_that_have_no_ring_in_common(self):
        table = ((1, 1, 0, 0, 0), (1, 1, 0, 0, 0), (0, 0, 2, 0, 0), (0, 0, 0, 1, 1), (0, 0, 0, 1, 1))
        self.check_every_choice(table, 2)

    def test_somewhat_beyond_the_bounds(self):
        numbers = Numbers(24)
        for shape in ((6, 6), (1, 7), (7, 1), (6, 2)):
            for base in (-7, -1, 1, 7, 61, 70):
                self.check_every_choice(table_of(shape, lambda: numbers.below(100100) - 50), base)
        self.assertEqual(fair_where((), 5, "whole", None, True), ())
        self.assertEqual(fair_where(((),), 5, "row", 0, False), ((),))


class SameTest(unittest.TestCase):
    def test_the_same_is_told_again_and_nothing_is_changed(self):
        for table, base in varied_tables(25, (7, 60)):
            before = same_table(table)
            asked = [(kind, at, upward) for kind, at in choices(table) for upward in (True, False)]
            told = [fair_where(table, base, *choice) for choice in asked]
            self.assertEqual([fair_where(before, base, *choice) for choice in reversed(asked)], told[::-1])
            self.assertEqual(table, before)
