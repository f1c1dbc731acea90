"""[0.2] (e), [5.1]: tables changed, and that what is fair stays so."""

import itertools
import unittest

from fairround.changing import ordered, raised, taken, turned
from fairround.choosing import fair_where
from fairround.rounding import fair
from fairround.tables import down, is_fair, up
from tests.helper import SHAPES, Numbers, all_tables, is_fair_by_words, is_whole, same_table, table_of, varied_tables


def numbered(shape):
    """A table of a shape in which each count tells its place."""
    return tuple(tuple(10 * row + pillar for pillar in range(shape[1])) for row in range(shape[0]))


def some_order(length, numbers):
    """All numbers below a length, each once, in some order."""
    left = list(range(length))
    return tuple(left.pop(numbers.below(len(left))) for _ in range(length))


def least_high(table, base):
    """The least number of bases that no count is above."""
    return -(-max(max(row) for row in table) // base)


def with_step(thing, row, pillar, step):
    """A thing with a step more at a place."""
    return tuple(
        tuple(number + step * ((r, p) == (row, pillar)) for p, number in enumerate(line))
        for r, line in enumerate(thing)
    )


def things(table, base, numbers):
    """Things shaped like a table, some fair and some not."""
    fair_one = fair(table, base)
    row = numbers.below(len(table))
    pillar = numbers.below(len(table[0]))
    return [
        fair_one, down(table, base), up(table, base),
        fair_where(table, base, "whole", None, True), fair_where(table, base, "place", (row, pillar), False),
        with_step(fair_one, row, pillar, 1), with_step(fair_one, row, pillar, -1),
    ]


class FormTest(unittest.TestCase):
    def check_kind(self, table, shape):
        self.assertIsInstance(table, tuple)
        self.assertEqual(len(table), shape[0])
        for row in table:
            self.assertIsInstance(row, tuple)
            self.assertEqual(len(row), shape[1])
            self.assertTrue(all(is_whole(count) for count in row))

    def test_kinds(self):
        numbers = Numbers(51)
        for shape in SHAPES:
            table = table_of(shape, lambda: numbers.below(60))
            self.check_kind(turned(table), shape[::-1])
            self.check_kind(ordered(table, some_order(shape[0], numbers), some_order(shape[1], numbers)), shape)
            self.check_kind(raised(table, 7, 3), shape)
            self.check_kind(taken(table, 7, 9), shape)


class TurnedTest(unittest.TestCase):
    def test_pillars_are_rows(self):
        self.assertEqual(turned(((1, 2, 3), (4, 5, 6))), ((1, 4), (2, 5), (3, 6)))
        self.assertEqual(turned(((7,),)), ((7,),))
        self.assertEqual(turned(((1, 2, 3),)), ((1,), (2,), (3,)))

    def test_every_shape(self):
        for shape in SHAPES:
            table = numbered(shape)
            told = turned(table)
            for row in range(shape[0]):
                for pillar in range(shape[1]):
                    self.assertEqual(told[pillar][row], table[row][pillar])
            self.assertEqual(turned(told), table)

    def test_somewhat_beyond_the_bounds(self):
        self.assertEqual(turned(()), ())
        self.assertEqual(turned(((1, -2, 3, 4, 5, 6),)), ((1,), (-2,), (3,), (4,), (5,), (6,)))


class OrderedTest(unittest.TestCase):
    def test_row_k_becomes_row_of_that_number(self):
        table = ((1,), (2,), (3,))
        # Row 0 becomes row 1, row 1 row 2, row 2 row 0: the other way round it would be ((2,), (3,), (1,)).
        self.assertEqual(ordered(table, (1, 2, 0), (0,)), ((3,), (1,), (2,)))

    def test_pillar_k_becomes_pillar_of_that_number(self):
        self.assertEqual(ordered(((1, 2, 3),), (0,), (1, 2, 0)), ((3, 1, 2),))

    def test_both(self):
        self.assertEqual(ordered(((1, 2, 3), (4, 5, 6)), (1, 0), (2, 0, 1)), ((5, 6, 4), (2, 3, 1)))

    def test_every_order_of_every_shape(self):
        for shape in SHAPES:
            table = numbered(shape)
            for rows in itertools.permutations(range(shape[0])):
                pillars_orders = list(itertools.permutations(range(shape[1])))
                for pillars in pillars_orders[::1 + len(pillars_orders) // 12]:
                    told = ordered(table, rows, pillars)
                    for row in range(shape[0]):
                        for pillar in range(shape[1]):
                            self.assertEqual(told[rows[row]][pillars[pillar]], table[row][pillar], (rows, pillars))

    def test_orders_that_leave_all_as_it_is(self):
        for shape in SHAPES:
            table = numbered(shape)
            self.assertEqual(ordered(table, tuple(range(shape[0])), tuple(range(shape[1]))), table)


class RaisedTest(unittest.TestCase):
    def test_the_base_is_added_so_many_times(self):
        self.assertEqual(raised(((0, 1), (2, 100)), 7, 3), ((21, 22), (23, 121)))

    def test_bounds(self):
        for shape in SHAPES:
            for base in (1, 2, 59, 60):
                table = numbered(shape)
                self.assertEqual(raised(table, base, 0), table)
                for by in (1, 8, 9):
                    told = raised(table, base, by)
                    self.assertEqual(told, tuple(tuple(count + base * by for count in row) for row in table))

    def test_counts_may_come_above_their_bound(self):
        self.assertEqual(raised(((100000,),), 60, 9), ((100540,),))

    def test_somewhat_beyond_the_bounds(self):
        self.assertEqual(raised(((1, -2),), 61, 10), ((611, 608),))
        self.assertEqual(raised(((1, 2),), 5, -1), ((-4, -3),))
        self.assertEqual(raised(((1, 2),), 0, 4), ((1, 2),))
        self.assertEqual(raised((), 5, 1), ())


class TakenTest(unittest.TestCase):
    def test_each_count_is_taken(self):
        self.assertEqual(taken(((0, 1), (2, 14)), 7, 2), ((14, 13), (12, 0)))

    def test_bounds(self):
        numbers = Numbers(52)
        for shape in SHAPES:
            for base in (1, 2, 59, 60):
                table = table_of(shape, lambda: numbers.below(100 * base + 1))
                for high in (least_high(table, base), 100):
                    told = taken(table, base, high)
                    self.assertEqual(told, tuple(tuple(base * high - count for count in row) for row in table))
                    self.assertGreaterEqual(min(min(row) for row in told), 0)
                    self.assertEqual(taken(told, base, high), table)

    def test_none_at_all(self):
        self.assertEqual(taken(((0, 0),), 60, 0), ((0, 0),))

    def test_somewhat_beyond_the_bounds(self):
        self.assertEqual(taken(((1, 2),), 61, 101), ((6160, 6159),))
        self.assertEqual(taken(((1, 8),), 7, 1), ((6, -1),))
        self.assertEqual(taken((), 5, 1), ())


class FairStaysTest(unittest.TestCase):
    """A thing, changed in the same way, is fair of the changed table just if it was fair of the table."""

    def setUp(self):
        self.answers = {True: 0, False: 0}

    def check(self, table, base, thing, changed_table, changed_thing):
        was = is_fair_by_words(table, base, thing)
        asked = (table, base, thing, changed_table, changed_thing)
        self.assertIs(is_fair_by_words(changed_table, base, changed_thing), was, asked)
        self.assertIs(is_fair(changed_table, base, changed_thing), was, asked)
        self.answers[was] += 1

    def check_both_came(self):
        """Both fair things and others have been looked at."""
        self.assertGreater(self.answers[True], 100)
        self.assertGreater(self.answers[False], 100)

    def asked(self, seed):
        """Tables with a base, and things that may be fair of them."""
        numbers = Numbers(seed)
        for table, base in varied_tables(seed, (1, 2, 7, 60)):
            for thing in things(table, base, numbers):
                yield table, base, thing
        for table in all_tables((2, 2), (0, 1, 2)):
            for thing in all_tables((2, 2), (0, 1)):
                yield table, 3, thing

    def test_turned(self):
        for table, base, thing in self.asked(53):
            self.check(table, base, thing, turned(table), turned(thing))
        self.check_both_came()

    def test_ordered(self):
        numbers = Numbers(54)
        for table, base, thing in self.asked(55):
            rows = some_order(len(table), numbers)
            pillars = some_order(len(table[0]), numbers)
            self.check(table, base, thing, ordered(table, rows, pillars), ordered(thing, rows, pillars))
        self.check_both_came()

    def test_raised(self):
        numbers = Numbers(56)
        for table, base, thing in self.asked(57):
            for by in (0, 1 + numbers.below(8), 9):
                self.check(table, base, thing, raised(table, base, by), raised(thing, 1, by))
        self.check_both_came()

    def test_taken(self):
        for table, base, thing in self.asked(58):
            for high in {least_high(table, base), 100}:
                if least_high(table, base) <= high <= 100:
                    self.check(table, base, thing, taken(table, base, high), taken(thing, 1, high))
        self.check_both_came()


class SameTest(unittest.TestCase):
    def test_the_same_is_told_again_and_nothing_is_changed(self):
        numbers = Numbers(59)
        for table, base in varied_tables(60, (7, 60)):
            before = same_table(table)
            rows = some_order(len(table), numbers)
            pillars = some_order(len(table[0]), numbers)
            orders = (tuple(list(rows)), tuple(list(pillars)))
            told = (turned(table), ordered(table, rows, pillars), raised(table, base, 9), taken(table, base, 100))
            again = (turned(before), ordered(before, *orders), raised(before, base, 9), taken(before, base, 100))
            self.assertEqual(again, told)
            self.assertEqual((table, rows, pillars), (before,) + orders)
