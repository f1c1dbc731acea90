"""What the tests share: fairness by the document's words, and tables to try."""

import itertools
import math
from fractions import Fraction

SHAPES = tuple(itertools.product(range(1, 6), repeat=2))


class Numbers:
    """Whole numbers without an order one would see, the same at each run."""

    def __init__(self, seed):
        self.state = seed

    def below(self, bound):
        self.state = (self.state * 6364136223846793005 + 1442695040888963407) % 2**64
        return (self.state >> 33) % bound


def table_of(shape, count):
    """A table of a shape, its counts asked for one by one."""
    return tuple(tuple(count() for _ in range(shape[1])) for _ in range(shape[0]))


def varied_tables(seed, bases):
    """For every shape and each base tables of small, great, near whole and seldom broken shares, with their base."""
    numbers = Numbers(seed)
    for shape in SHAPES:
        for base in bases:
            yield table_of(shape, lambda: numbers.below(base)), base
            yield table_of(shape, lambda: numbers.below(4)), base
            yield table_of(shape, lambda: numbers.below(100001)), base
            yield table_of(shape, lambda: base * (1 + numbers.below(4)) - 1 + numbers.below(3)), base
            yield table_of(shape, lambda: base + (numbers.below(4) == 0) * numbers.below(base)), base


def same_table(table):
    """A table equal to a table, but made anew."""
    return tuple([tuple([int(str(count)) for count in row]) for row in table])


def all_tables(shape, counts):
    """All tables of a shape with counts out of some."""
    for flat in itertools.product(counts, repeat=shape[0] * shape[1]):
        yield tuple(flat[k:k + shape[1]] for k in range(0, len(flat), shape[1]))


def is_whole(thing):
    return isinstance(thing, int) and not isinstance(thing, bool)


def is_rounded(count, base, number):
    share = Fraction(count, base)
    return number in (math.floor(share), math.ceil(share))


def put(count, base, upward):
    """[0.5]: the share of a count, put up or down."""
    share = Fraction(count, base)
    return math.ceil(share) if upward else math.floor(share)


def lines_of(table):
    """The counts that are asked to be rounded together: places, rows, pillars, and the whole."""
    places = [(count,) for row in table for count in row]
    return places + list(table) + list(zip(*table)) + [tuple(itertools.chain(*table))]


def is_fair_by_words(table, base, thing):
    """[0.6], word by word and apart from the program."""
    if not isinstance(thing, tuple) or len(thing) != len(table):
        return False
    for row, numbers in zip(table, thing):
        if not isinstance(numbers, tuple) or len(numbers) != len(row):
            return False
        if not all(is_whole(number) for number in numbers):
            return False
    pairs = zip(lines_of(table), lines_of(thing), strict=True)
    return all(is_rounded(sum(counts), base, sum(numbers)) for counts, numbers in pairs)


def nested(thing, depth, kind):
    """A thing within so many lists or tuples."""
    for _ in range(depth):
        thing = kind([thing])
    return thing


def odd_things():
    """Things of every kind that are neither a whole number nor a tuple of one."""
    return [
        True, False, None, "", "1", "place", [], [1], [[1]], (), ((),), ((), ()), (None,), ("1",), ([1],),
        (True,), ((True,),), ((None,),), (("1",),), (([1],),), (((1,),),), [(1,)],
        nested(1, 30, tuple), nested(1, 30, list), nested(nested(None, 15, list), 15, tuple),
        nested((), 30, tuple), nested("1", 31, tuple), nested(True, 2, tuple), nested([], 32, list),
    ]
