"""What tables, bases and fair tables are; a table's shares put down or up; a table's sums."""

GREATEST_BASE = 60
GREATEST_COUNT = 100000
MOST_ROWS = 5
MOST_PILLARS = 5


def is_whole(thing):
    """Whether a thing is a whole number."""
    # To Python a truth is an int too, but it counts as no whole number.
    return isinstance(thing, int) and not isinstance(thing, bool)


def is_count(thing):
    """Whether a thing is a count."""
    return is_whole(thing) and 0 <= thing <= GREATEST_COUNT


def is_row(thing):
    """Whether a thing is a row that a table may have."""
    if not isinstance(thing, tuple):
        return False
    return 1 <= len(thing) <= MOST_PILLARS and all([is_count(part) for part in thing])


def is_base(thing):
    """Whether a thing is a base."""
    return is_whole(thing) and 1 <= thing <= GREATEST_BASE


def is_table(thing):
    """Whether a thing is a table."""
    if not isinstance(thing, tuple):
        return False
    if not 1 <= len(thing) <= MOST_ROWS or not all([is_row(part) for part in thing]):
        return False
    return all([len(row) == len(thing[0]) for row in thing])


def put_down(count, base):
    """The greatest whole number that isn't greater than the share of a count."""
    return count // base


def put_up(count, base):
    """The least whole number that isn't less than the share of a count."""
    # Floor division goes down; between two changes of sign, down becomes up.
    return -(-count // base)


def row_down(row, base):
    """A row of shares, put down."""
    return tuple([put_down(count, base) for count in row])


def row_up(row, base):
    """A row of shares, put up."""
    return tuple([put_up(count, base) for count in row])


def down(table, base):
    """The table of all shares put down."""
    return tuple([row_down(row, base) for row in table])


def up(table, base):
    """The table of all shares put up."""
    return tuple([row_up(row, base) for row in table])


def pillar_sum(table, place):
    """The sum of the pillar at a place."""
    return sum([row[place] for row in table])


def sums(table):
    """A triple: the sums of the rows, those of the pillars, and the sum of all."""
    # A table without rows lies beyond the bounds, but is not refused.
    width = len(table[0]) if table else 0
    row_sums = tuple([sum(row) for row in table])
    pillar_sums = tuple([pillar_sum(table, place) for place in range(width)])
    return (row_sums, pillar_sums, sum(row_sums))


def is_rounded(count, base, number):
    """Whether a whole number is the share of a count, rounded."""
    return number == put_down(count, base) or number == put_up(count, base)


def are_rounded(counts, base, numbers):
    """Whether whole numbers, as many as the counts, are their shares, rounded."""
    return all([is_rounded(count, base, number) for count, number in zip(counts, numbers)])


def is_row_of_wholes(thing, length):
    """Whether a thing is a tuple of so many whole numbers."""
    if not isinstance(thing, tuple):
        return False
    return len(thing) == length and all([is_whole(part) for part in thing])


def is_shaped_like(table, thing):
    """Whether a thing has whole numbers in just the rows and places that the table has."""
    if not isinstance(thing, tuple) or len(thing) != len(table):
        return False
    return all([is_row_of_wholes(part, len(row)) for row, part in zip(table, thing)])


def is_fair(table, base, thing):
    """Whether a thing is a fair table of the table."""
    # Only what has the table's shape can be added up.
    if not is_shaped_like(table, thing):
        return False
    asked = sums(table)
    told = sums(thing)
    return (
        all([are_rounded(row, base, numbers) for row, numbers in zip(table, thing)])
        and are_rounded(asked[0], base, told[0])
        and are_rounded(asked[1], base, told[1])
        and is_rounded(asked[2], base, told[2])
    )
