"""A fair table of a table.

The table is widened by the sums of its rows and pillars, with their signs changed, and by the sum of all in the
corner, so that each row and each pillar adds up to 0. A place is loose as long as its count is no multiple of the
base. A line, row or pillar, with one loose place has another, since it adds up to 0; so loose places can be walked
from line to line till the walk closes to a ring. Round the ring the places are raised and lowered in turn, all by the
same, till one of them is a multiple of the base: each line still adds up to 0, no place has gone beyond its nearest
multiples, and fewer places are loose. With no place loose, each share and each sum is rounded.
"""

from fairround.tables import down, sums


def widened(table):
    """The table as lists, with one more pillar and one more row, so that each line adds up to 0."""
    totals = sums(table)
    grid = [list(row) + [-total] for row, total in zip(table, totals[0])]
    return grid + [[-total for total in totals[1]] + [totals[2]]]


def crossing_lines(grid, base, line):
    """The lines that cross a line in a loose place; lines are numbered rows first, then pillars."""
    height = len(grid)
    if line < height:
        return [height + number for number, count in enumerate(grid[line]) if count % base != 0]
    return [number for number, row in enumerate(grid) if row[line - height] % base != 0]


def ring_from(grid, base, start):
    """Lines of which each crosses the one behind it, and the last the first, in a loose place."""
    path = [start]
    ahead = crossing_lines(grid, base, start)[0]
    while ahead not in path:
        path.append(ahead)
        # To go straight back would close no ring.
        ahead = [line for line in crossing_lines(grid, base, ahead) if line != path[-2]][0]
    return path[path.index(ahead):]


def crossing_place(height, line, other):
    """The pair of row and pillar where two lines cross."""
    return (min(line, other), max(line, other) - height)


def places_round(ring, height):
    """The places where the lines of a ring cross, in their order."""
    return [crossing_place(height, line, other) for line, other in zip(ring, ring[1:] + ring[:1])]


def greatest_shift(grid, base, rising, falling):
    """How far places can rise and fall till the first of them is a multiple of the base."""
    rooms_above = [base - grid[place[0]][place[1]] % base for place in rising]
    rooms_below = [grid[place[0]][place[1]] % base for place in falling]
    return min(rooms_above + rooms_below)


def add_at(grid, places, amount):
    """Add an amount at each of the places."""
    for place in places:
        grid[place[0]][place[1]] += amount


def shift_round(grid, base, ring):
    """Raise and lower the places of a ring in turn, till one of them is loose no more."""
    places = places_round(ring, len(grid))
    rising = places[0::2]
    falling = places[1::2]
    amount = greatest_shift(grid, base, rising, falling)
    add_at(grid, rising, amount)
    add_at(grid, falling, -amount)


def settle_row(grid, base, row):
    """Shift rings that are found from a row till none of its places is loose."""
    while crossing_lines(grid, base, row):
        shift_round(grid, base, ring_from(grid, base, row))


def settled(grid, base):
    """The fair table that a widened table comes to when no place of it is left loose."""
    # A base below 0 lies beyond the bounds, but is not refused: its multiples are those of its size.
    size = abs(base)
    # The row of sums needs no turn: a loose place in it would have another in its pillar.
    for row in range(len(grid) - 1):
        settle_row(grid, size, row)
    return down(tuple([tuple(counts[:-1]) for counts in grid[:-1]]), base)


def fair(table, base):
    """A fair table of the table."""
    return settled(widened(table), base)
