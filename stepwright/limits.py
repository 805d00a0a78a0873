"""Limits: how a rule grows what shrinks by a part each time, as a share of polynomials, and where it doesn't."""

from itertools import combinations

from stepwright.curves import (
    added, curve, divided, multiplied, part_at, power_of, powers, put_in, scaled_curve, shared_curve, taken, worth,
)
from stepwright.errors import BadPaper, BadSize, BadTable
from stepwright.parts import is_less, minus, over, size_of, times
from stepwright.roots import all_of, bound, how_many, never_below
from stepwright.trees import up_to

# The letter turned about.
TURNED = ((0, 1), (-1, 1))


def growth(table):
    """Return the (top, low) polynomials of a rule's growth by the step's length times the slope's part.

    The low is one at nought, and they have no polynomial in common.
    """
    stages = range(table.stages())
    top = minor([[cell_of(table, a, b, True) for b in stages] for a in stages])
    return small_share(top, minor([[cell_of(table, a, b, False) for b in stages] for a in stages]))


def small_share(top, low):
    """Return (top, low) without what they have in common, the low one at nought."""
    common = shared_curve(top, low)
    return low_one(divided(top, common)[0], divided(low, common)[0])


def low_one(top, low):
    """Return (top, low) times the part that makes the low one at nought."""
    by = over((1, 1), part_at(low, 0))
    return (scaled_curve(top, by), scaled_curve(low, by))


def cell_of(table, a, b, ahead):
    """Return a cell of one less the letter times the shares, and plus the letter times the weights where ahead."""
    found = curve([(1 if a == b else 0, 1), minus((0, 1), table.shares[a][b])])
    if ahead:
        return added(found, curve([(0, 1), table.weights[b]]))
    return found


def minor(rows):
    """Return the polynomial of a square of polynomials, one for none.

    It is the first row's times what's left, signs in turn.
    """
    size = len(rows)
    left = {(): ((1, 1),)}
    # From the last row up: what is left below a row hangs on the columns left alone, so each is told once.
    for count in range(1, size + 1):
        row = rows[size - count]
        left = {columns: along_row(row, columns, left) for columns in combinations(range(size), count)}
    return left[tuple(range(size))]


def along_row(row, columns, left):
    """Return the sum of a row's polynomials in some columns, each times what's left without its column."""
    found = ()
    sign = 1
    for at, column in enumerate(columns):
        if row[column] != ():
            rest = left[columns[:at] + columns[at + 1:]]
            found = added(found, scaled_curve(multiplied(row[column], rest), (sign, 1)))
        sign = -sign
    return found


def grown_by(share, at):
    """Return what a (top, low) share is at a part; BadPart where its low is nought."""
    return over(worth(share[0], at), worth(share[1], at))


def follows_to(share, most):
    """Return up to which power a share is the row of one by the product of the numbers, no more than told; BadSize."""
    if most < 0:
        raise BadSize(f"no powers up to {most}")
    due = curve([over((1, 1), (up_to(power), 1)) for power in range(most + 1)])
    # The low is one at nought, so the first power that lacks is the same with it and without.
    lack = taken(share[0], multiplied(share[1], due))
    for power in range(most + 1):
        if part_at(lack, power)[0] != 0:
            return power - 1
    return most


def squares(one):
    """Return the polynomial, of the letter's square, of a polynomial's size squared for the letter turned a quarter."""
    # Even powers stay in the line and odd ones stand across it; each second one is turned about.
    along = put_in(curve(one[::2]), TURNED)
    across = put_in(curve(one[1::2]), TURNED)
    return added(multiplied(along, along), multiplied(powers(1), multiplied(across, across)))


def calm_on_turns(share):
    """Tell whether a share is nowhere greater than one for the letter turned a quarter."""
    spare = taken(squares(share[1]), squares(share[0]))
    # Past the bound of its roots a polynomial never changes its sign.
    return spare == () or never_below(spare, (0, 1), bound(spare))


def calm_between(share, low, high):
    """Tell whether a share is nowhere greater than one, its sign aside, nor its low nought, from a part to another.

    BadSize for high below low.
    """
    top, below = share
    if how_many(below, low, high) != 0 or worth(below, low)[0] == 0:
        return False
    return never_below(taken(multiplied(below, below), multiplied(top, top)), low, high)


def calm_down_to(share, steps, most):
    """Return the greatest number of steps of a length, no more than so many, down to which a share is calm.

    From nought on; BadSize for no length.
    """
    if most < 0 or steps[0] <= 0:
        raise BadSize("no steps down, or no length")
    for count in range(1, most + 1):
        if not calm_between(share, times(steps, (-count, 1)), times(steps, (1 - count, 1))):
            return count - 1
    return most


def shrinks_far(share):
    """Tell whether a share goes to nought far out."""
    return power_of(share[0]) < power_of(share[1])


def back_share(share):
    """Return the share of the rule undone with the letter turned about."""
    top, low = put_in(share[1], TURNED), put_in(share[0], TURNED)
    if low == ():
        raise BadTable("a share that is nought can't be undone")
    return low_one(top, low)


def behind_share(one, other):
    """Return the share of two rules' steps one behind the other, with no polynomial in common."""
    return small_share(multiplied(one[0], other[0]), multiplied(one[1], other[1]))


def check_calm(share, points):
    """Return True where a share is no greater than one at all points; BadPaper for one greater, or without it."""
    for at in points:
        if worth(share[1], at)[0] == 0:
            raise BadPaper("no growth at a point")
        if is_less((1, 1), size_of(grown_by(share, at))):
            raise BadPaper("a point at which it grows")
    return True


def root_count(share):
    """Return how many places the low of a share is nought at, each once."""
    return all_of(share[1])


def power_share(share, count):
    """Return the share of so many steps; BadSize below nought."""
    if count < 0:
        raise BadSize(f"no {count} steps")
    found = (((1, 1),), ((1, 1),))
    for _ in range(count):
        found = behind_share(found, share)
    return found
