"""[0.2] (d), [4.1]: rows by themselves, with the sum of each stretch of neighbours rounded."""

import copy
import itertools
import unittest

from fairround.rows import even, is_even
from tests.helper import Numbers, is_rounded, is_whole, nested, odd_things

PARTS = (True, False, None, "", "0", "1", [], [0], (), (0,), nested(0, 28, tuple), nested(0, 28, list))


def broken_stretches(counts, base, numbers):
    """The stretches, from where to where, of which the sum is not rounded: [4.1], word by word."""
    return [
        (start, end)
        for start in range(len(counts)) for end in range(start + 1, len(counts) + 1)
        if not is_rounded(sum(counts[start:end]), base, sum(numbers[start:end]))
    ]


def is_even_by_words(counts, base, thing):
    if not isinstance(thing, tuple) or len(thing) != len(counts) or not all(is_whole(part) for part in thing):
        return False
    return broken_stretches(counts, base, thing) == []


def all_but_one(length, start, end, numbers):
    """Counts, in sixtieths, and things that break the stretch from start to end and no other.

    The sum of the first numbers is before that of the counts, or behind it, by so much that only the two ends of the
    stretch are a whole one apart.
    """
    ahead = [0] * (length + 1)
    ahead[start] -= 31
    ahead[end] += 31
    told = tuple(2 + numbers.below(7) for _ in range(length))
    return tuple(60 * number - ahead[k + 1] + ahead[k] for k, number in enumerate(told)), told


class EvenTest(unittest.TestCase):
    def check(self, counts, base):
        told = even(counts, base)
        self.assertIsInstance(told, tuple)
        self.assertEqual(len(told), len(counts))
        self.assertTrue(all(is_whole(number) for number in told), told)
        self.assertEqual(broken_stretches(counts, base, told), [], (counts, base, told))
        self.assertIs(is_even(counts, base, told), True, (counts, base, told))

    def check_every_length(self, seed, bases, bound):
        numbers = Numbers(seed)
        for length in range(1, 41):
            for base in bases:
                self.check(tuple(numbers.below(bound(base)) for _ in range(length)), base)

    def test_one_count(self):
        for base in range(1, 61):
            for count in (0, 1, base - 1, base, base + 1, 99999, 100000):
                self.check((count,), base)

    def test_whole_shares_stay(self):
        self.assertEqual(even((0, 5, 10, 100000), 5), (0, 1, 2, 20000))
        self.assertEqual(even((3, 0, 100000), 1), (3, 0, 100000))

    def test_shares_below_one(self):
        self.check_every_length(41, (2, 3, 7, 31, 59, 60), lambda base: base)

    def test_small_counts(self):
        self.check_every_length(42, (1, 2, 5, 60), lambda base: 4)

    def test_great_counts(self):
        self.check_every_length(43, (1, 7, 32, 60), lambda base: 100001)

    def test_every_base(self):
        numbers = Numbers(44)
        for base in range(1, 61):
            for length in (2, 5, 13, 40):
                self.check(tuple(numbers.below(3 * base + 1) for _ in range(length)), base)

    def test_equal_counts(self):
        for length in (1, 2, 7, 40):
            for base in (1, 2, 59, 60):
                for count in (0, 1, base - 1, base + 1, 100000):
                    self.check((count,) * length, base)

    def test_all_small_counts(self):
        for base in (1, 2, 3, 4):
            for length in (1, 2, 3, 4):
                for counts in itertools.product(range(base + 1), repeat=length):
                    self.check(counts, base)

    def test_somewhat_beyond_the_bounds(self):
        numbers = Numbers(45)
        for length in (1, 41, 45):
            for base in (-7, -1, 1, 61, 70):
                self.check(tuple(numbers.below(100100) - 50 for _ in range(length)), base)
        self.assertEqual(even((), 5), ())
        self.assertIs(is_even((), 5, ()), True)
        self.assertIs(is_even((), 5, (0,)), False)


class IsEvenTest(unittest.TestCase):
    def test_all_small_things_by_the_words(self):
        for base in (1, 2, 3, 4):
            for counts in itertools.product((0, 1, 3), repeat=3):
                for thing in itertools.product(range(-1, 4), repeat=3):
                    self.assertIs(is_even(counts, base, thing), is_even_by_words(counts, base, thing), (counts, thing))

    def test_several_are_even(self):
        for thing in ((1, 0, 0), (0, 1, 0), (0, 0, 1)):
            self.assertIs(is_even((1, 1, 1), 3, thing), True, thing)

    def test_one_stretch_broken_alone(self):
        self.assertIs(is_even((1, 1, 1), 4, (1, 0, 1)), False)
        self.assertIs(is_even((1, 1, 1), 4, (1, -1, 1)), False)
        numbers = Numbers(46)
        for length in range(1, 9):
            for start in range(length):
                for end in range(start + 1, length + 1):
                    self.check_one(length, start, end, numbers)

    def test_one_stretch_of_forty_broken_alone(self):
        numbers = Numbers(47)
        for start in range(0, 40, 3):
            for end in (start + 1, start + 2, start + 17, 39, 40):
                if start < end <= 40:
                    self.check_one(40, start, end, numbers)

    def check_one(self, length, start, end, numbers):
        counts, thing = all_but_one(length, start, end, numbers)
        self.assertEqual(broken_stretches(counts, 60, thing), [(start, end)])
        self.assertIs(is_even(counts, 60, thing), False, (counts, thing))

    def test_one_place_changed(self):
        numbers = Numbers(48)
        for length in (1, 2, 5, 40):
            counts = tuple(numbers.below(200) for _ in range(length))
            told = even(counts, 60)
            for place in {0, length // 2, length - 1}:
                for step in (-2, -1, 1, 2):
                    thing = told[:place] + (told[place] + step,) + told[place + 1:]
                    self.assertIs(is_even(counts, 60, thing), is_even_by_words(counts, 60, thing), (counts, thing))

    def test_great_numbers(self):
        counts = (100000,) * 40
        self.assertIs(is_even(counts, 50, (2000,) * 40), True)
        self.assertIs(is_even(counts, 60, (1666,) * 40), False)
        self.assertIs(is_even(counts, 60, (1667,) * 40), False)
        self.assertIs(is_even((7,), 4, (10**30,)), False)
        self.assertIs(is_even((7,), 4, (-10**30,)), False)

    def test_too_few_or_too_many_places(self):
        for length in range(1, 41):
            counts = (0,) * length
            self.assertIs(is_even(counts, 7, counts), True)
            for thing in ((), counts[1:], counts + (0,), counts * 2, (counts,)):
                self.assertIs(is_even(counts, 7, thing), False, (counts, thing))


class OtherThingsTest(unittest.TestCase):
    def test_in_the_place_of_a_number(self):
        for part in PARTS:
            for place in range(3):
                thing = (0,) * place + (part,) + (0,) * (2 - place)
                self.assertIs(is_even((1, 1, 1), 4, thing), False, thing)

    def test_in_the_place_of_the_whole(self):
        for thing in list(PARTS) + odd_things() + [0, 1, [0, 1, 0], "010", ([0, 1, 0],), ((0, 1, 0),)]:
            self.assertIs(is_even((1, 1, 1), 4, thing), False, thing)

    def test_of_one_place(self):
        for thing in odd_things() + [0, 1, [0], [1], (True,), (False,), ((0,),), "0"]:
            self.assertIs(is_even((1,), 2, thing), False, thing)
        self.assertIs(is_even((1,), 2, (0,)), True)
        self.assertIs(is_even((1,), 2, (1,)), True)


class SameTest(unittest.TestCase):
    def test_the_same_is_told_again_and_nothing_is_changed(self):
        numbers = Numbers(49)
        asked = [(tuple(numbers.below(500) for _ in range(length)), 1 + numbers.below(60)) for length in range(1, 41)]
        told = [even(counts, base) for counts, base in asked]
        for (counts, base), answer in reversed(list(zip(asked, told))):
            again = tuple(list(counts))
            self.assertEqual(even(again, base), answer)
            self.assertEqual(counts, again)

    def test_things_are_not_changed(self):
        for thing in odd_things() + [(0, 1, 0), [0, 1, 0], (1, 1, 0)]:
            before = copy.deepcopy(thing)
            told = is_even((1, 1, 1), 4, thing)
            self.assertEqual(thing, before)
            self.assertIs(is_even((1, 1, 1), 4, thing), told)
