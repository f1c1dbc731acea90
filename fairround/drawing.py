"""Drawings: fair tables, as many as there are parts of one, which added up are the table's counts.

One drawing is a fair table of the counts. What it leaves is the counts of the others, in one part less: a share that
was between two neighbouring whole numbers, or was one of them, is so still, and so is each sum. So the same can be
done again, and what is told stays fair of the table, till one part is left and the counts themselves are the drawing.
"""

from fairround.rounding import fair


def row_less(row, numbers):
    """A row with a number taken from each count."""
    return tuple([count - number for count, number in zip(row, numbers)])


def less(table, drawing):
    """A table with a drawing taken from it, place by place."""
    return tuple([row_less(row, numbers) for row, numbers in zip(table, drawing)])


def drawings(table, base):
    """Fair tables, as many as the base tells, which added place by place are the table's counts."""
    rest = table
    drawn = []
    for parts in range(base, 0, -1):
        drawing = fair(rest, parts)
        drawn.append(drawing)
        rest = less(rest, drawing)
    return tuple(drawn)


def share_up(table, base, row, pillar):
    """How many of any drawings have the share at a place above what it is put down to."""
    # A base below 1 lies beyond the bounds, but is not refused: there are no drawings of it.
    if base < 1:
        return 0
    # All drawings are at least what the share is put down to, and one above it at most: so many make up the count.
    return table[row][pillar] % base
