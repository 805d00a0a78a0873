"""Walks: motions stepped with lengths chosen by an error told beside, each choice by a rule, written and checked."""

from stepwright.errors import BadField, BadPaper, BadSize
from stepwright.flows import moved, stage_slopes, steps
from stepwright.parts import greatest, is_less, minus, over, plus, size_of, times, total


class Walk:
    """A plain table, other weights, a most, factors shorter and longer, and the most's calm part, that asks longer."""

    def __init__(self, table, others, most, shorter, longer, calm):
        self.table = table
        self.others = tuple(others)
        self.most = most
        self.shorter = shorter
        self.longer = longer
        self.calm = calm
        if not table.is_plain() or len(self.others) != table.stages():
            raise BadField("a walk has a plain rule, and another weight for each stage")
        if most[0] <= 0 or calm[0] <= 0 or not is_less(calm, (1, 1)):
            raise BadSize("the most is above nought, its calm part between nought and one")
        if shorter[0] <= 0 or not is_less(shorter, (1, 1)) or is_less(longer, (1, 1)):
            raise BadSize("shorter is between nought and one, longer no less than one")

    def both(self, field, point, length):
        """Return (the point behind a step, the greatest difference of a letter by the other weights); BadField."""
        slopes = stage_slopes(self.table, field, point, length)
        there = moved(point, self.table.weights, slopes, length)
        return (there, greatest_apart(there, moved(point, self.others, slopes, length)))

    def go(self, field, point, time, end, length, tries):
        """Return the (time, point, length, error, whether it's taken) of tries from a time up to an end.

        They are no longer than what is left, and so many at most; BadField, BadSize for an end ahead or no length.
        """
        if is_less(end, time) or length[0] <= 0 or tries < 0:
            raise BadSize("an end ahead, no length, or tries below nought")
        here, now, due = tuple(point), time, length
        rows = []
        while is_less(now, end) and len(rows) < tries:
            way = lesser(due, minus(end, now))
            there, error = self.both(field, here, way)
            rows.append((now, here, way, error, self.takes(error)))
            now, here = behind_try(rows[-1], there)
            due = self.next_length(way, error)
        return tuple(rows)

    def takes(self, error):
        """Tell whether a try with an error is taken."""
        return not is_less(self.most, error)

    def next_length(self, length, error):
        """Return the next length: shorter past the most, longer up to its calm part, else the same."""
        if not self.takes(error):
            return times(length, self.shorter)
        if not is_less(times(self.most, self.calm), error):
            return times(length, self.longer)
        return length

    def end_of(self, field, rows, time, point):
        """Return (time, point) behind tries, the told ones for none; BadField."""
        if len(rows) == 0:
            return (time, tuple(point))
        last = rows[-1]
        return behind_try(last, self.both(field, last[1], last[2])[0])

    def check(self, field, rows, end):
        """Return how many tries are taken where each follows from the one ahead; BadPaper, BadField."""
        for at, row in enumerate(rows):
            reached = self.check_try(field, row, end)
            if at + 1 < len(rows):
                self.check_next(row, reached, rows[at + 1], end)
        return len(taken_rows(rows))

    def check_try(self, field, row, end):
        """Return (time, point) behind a try; BadPaper for another error, taken against it, or past the end."""
        time, point, length, error, is_taken = row
        there, mine = self.both(field, point, length)
        if error != mine or is_taken != self.takes(error) or is_less(end, plus(time, length)):
            raise BadPaper("a try that tells another error, is taken or not against it, or goes past the end")
        return behind_try(row, there)

    def check_next(self, row, reached, after, end):
        """Refuse a try that doesn't begin where the one ahead led, with the length that it asked; BadPaper."""
        if (after[0], tuple(after[1])) != reached:
            raise BadPaper("a try at another place")
        if after[2] != lesser(self.next_length(row[2], row[3]), minus(end, reached[0])):
            raise BadPaper("a try of another length")


def lesser(one, other):
    """Return the lesser of two parts."""
    return other if is_less(other, one) else one


def behind_try(row, there):
    """Return (time, point) behind a try that steps there: where it began, unless it is taken."""
    if row[4]:
        return (plus(row[0], row[2]), there)
    return (row[0], tuple(row[1]))


def greatest_apart(one, other):
    """Return the greatest difference, without signs, of two points' letters."""
    return greatest([size_of(minus(mine, its)) for mine, its in zip(one, other)])


def taken_rows(rows):
    """Return the tries that are taken."""
    return tuple([(row[0], tuple(row[1])) + tuple(row[2:]) for row in rows if row[4]])


def greatest_error(rows):
    """Return the greatest error of taken tries, nought for none."""
    return greatest([row[3] for row in taken_rows(rows)])


def lengths(rows):
    """Return the lengths of taken tries in all."""
    return total([row[2] for row in taken_rows(rows)])


def even_walk(table, field, point, length, count):
    """Return (the point behind so many even steps, behind twice as many of half the length, their difference).

    The difference is the greatest of a letter; BadField, BadSize below nought.
    """
    if count < 0:
        raise BadSize(f"no {count} steps")
    if not table.is_plain():
        raise BadField("a rule whose stages hang on later ones or on themselves")
    there = steps(table, field, point, length, count)[-1]
    finer = steps(table, field, point, over(length, (2, 1)), 2 * count)[-1]
    return (there, finer, greatest_apart(there, finer))
