"""A fair table in which one share, or the share of one sum, goes the way that is wanted.

In the widened table of fairround.rounding each share and each sum has a place. A loose place always lies on a ring of
loose places: if not, it alone would join the lines on its one side to those on its other; and since each line adds up
to 0, the place would then be a multiple of the base and not loose. Round such rings the place is shifted the wanted
way, and never back, till it is loose no more. The places still loose are then settled as in any fair table.
"""

from fairround.rounding import crossing_lines, settled, shift_round, widened


def widened_place(grid, kind, at):
    """The pair of row and pillar where a share, or a sum, stands in the widened table."""
    last_row = len(grid) - 1
    last_pillar = len(grid[0]) - 1
    if kind == "row":
        return (at, last_pillar)
    if kind == "pillar":
        return (last_row, at)
    if kind == "whole":
        return (last_row, last_pillar)
    return at


def must_rise(base, kind, upward):
    """Whether a place of the widened table must rise for its share to go up, if upward, or else down."""
    rises = upward
    # The widened table has the sums of rows and pillars with their signs changed.
    if kind == "row" or kind == "pillar":
        rises = not rises
    # A base below 0 lies beyond the bounds, but is not refused: a greater count is a lesser share there.
    if base < 0:
        rises = not rises
    return rises


def path_round(grid, base, place):
    """Lines from the row of a loose place to its pillar, each crossing the one behind it in another loose place."""
    start = place[0]
    goal = len(grid) + place[1]
    paths = {start: [start]}
    waiting = [start]
    while goal not in paths:
        line = waiting.pop(0)
        for other in crossing_lines(grid, base, line):
            if other not in paths and (line, other) != (start, goal):
                paths[other] = paths[line] + [other]
                waiting.append(other)
    return paths[goal]


def settle_place(grid, base, place, rises):
    """Shift rings through a place till it is loose no more: at each shift it rises, or else at each it falls."""
    while grid[place[0]][place[1]] % base != 0:
        path = path_round(grid, base, place)
        # The first place of a ring rises, the last falls: the place is where the path's two ends cross.
        ring = path[-1:] + path[:-1] if rises else path
        shift_round(grid, base, ring)


def fair_where(table, base, kind, at, upward):
    """A fair table in which one share, or the share of one sum, is up, if upward, or else down."""
    grid = widened(table)
    settle_place(grid, abs(base), widened_place(grid, kind, at), must_rise(base, kind, upward))
    return settled(grid, base)
