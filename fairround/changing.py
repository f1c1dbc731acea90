"""Tables changed: what is fair of a table, changed in the same way, is fair of the changed table."""


def pillar_at(table, place):
    """The pillar at a place."""
    return tuple([row[place] for row in table])


def turned(table):
    """The table's pillars as rows."""
    # A table without rows lies beyond the bounds, but is not refused.
    width = len(table[0]) if table else 0
    return tuple([pillar_at(table, place) for place in range(width)])


def moved(parts, places):
    """A tuple's parts, part k at places[k]."""
    return tuple([parts[places.index(place)] for place in range(len(parts))])


def ordered(table, rows, pillars):
    """The table with row k at rows[k] and pillar k at pillars[k]."""
    return moved(tuple([moved(row, pillars) for row in table]), rows)


def row_raised(row, amount):
    """A row with an amount added to each count."""
    return tuple([count + amount for count in row])


def raised(table, base, by):
    """The table with the base added to each count so many times."""
    return tuple([row_raised(row, base * by) for row in table])


def row_taken(row, amount):
    """A row with each count taken from an amount."""
    return tuple([amount - count for count in row])


def taken(table, base, high):
    """The table with each count taken from so many times the base."""
    return tuple([row_taken(row, base * high) for row in table])
