"""Rows by themselves, rounded so that the sum of each stretch of neighbours is rounded too."""

from fairround.tables import are_rounded, is_row_of_wholes, put_down


def sums_up_to(numbers):
    """The sums of the first numbers, from none of them to all."""
    totals = [0]
    for number in numbers:
        totals.append(totals[-1] + number)
    return totals


def sums_from(numbers, start):
    """The sums of all stretches that begin at a place."""
    return sums_up_to(numbers[start:])[1:]


def even(counts, base):
    """Whole numbers in the place of counts, such that the sum of each stretch of neighbours is rounded."""
    # Two shares put down differ by what the shares differ by, rounded: and a stretch is what two sums differ by.
    marks = [put_down(total, base) for total in sums_up_to(counts)]
    return tuple([after - before for before, after in zip(marks, marks[1:])])


def is_even(counts, base, thing):
    """Whether a thing has whole numbers in the place of counts, with the sum of each stretch rounded."""
    # Only what has as many whole numbers can be added up.
    if not is_row_of_wholes(thing, len(counts)):
        return False
    return all([
        are_rounded(sums_from(counts, start), base, sums_from(thing, start))
        for start in range(len(counts))
    ])
