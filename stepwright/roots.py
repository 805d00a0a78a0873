"""Roots: how many places between two parts a polynomial is nought at, exactly, by rows of rests."""

from stepwright.curves import curve, divided, scaled_curve, shared_curve, slope, worth
from stepwright.errors import BadSize
from stepwright.parts import greatest, halfway, is_less, minus, over, plus, size_of, times


def rests(one):
    """Return a polynomial, its slope, and each time the rest of the last two turned about, up to a bare one."""
    row = []
    ahead, last = tuple(one), slope(one)
    while len(ahead) > 0:
        row.append(ahead)
        if len(last) == 0:
            break
        ahead, last = last, scaled_curve(divided(ahead, last)[1], (-1, 1))
    return tuple(row)


def changes(row, at):
    """Return how often signs change along a row of polynomials at a part, noughts left out."""
    signs = [sign for sign in [sign_at(one, at) for one in row] if sign != 0]
    return len([1 for sign, after in zip(signs, signs[1:]) if sign != after])


def plain(one):
    """Return a polynomial with each root once; BadSize for a bare one."""
    if len(one) == 0:
        raise BadSize("a bare polynomial is nought everywhere")
    return divided(one, shared_curve(one, slope(one)))[0]


def how_many(one, low, high):
    """Return how many roots, each once, are above a part, no more than another.

    BadSize for a bare one, or for high below low.
    """
    if is_less(high, low):
        raise BadSize("the high is below the low")
    row = rests(plain(one))
    return changes(row, low) - changes(row, high)


def bound(one):
    """Return a part greater than each root without its sign; BadSize for a bare one."""
    if len(one) == 0:
        raise BadSize("a bare polynomial is nought everywhere")
    return plus(greatest([size_of(over(other, one[-1])) for other in one[:-1]]), (1, 1))


def all_of(one):
    """Return how many roots there are, each once; BadSize for a bare one."""
    end = bound(one)
    return how_many(one, minus((0, 1), end), end)


def narrowed(one, low, high, turns):
    """Return the (low, high) about one root above low, no more than high, halved so often.

    BadSize for none or many.
    """
    if turns < 0 or how_many(one, low, high) != 1:
        raise BadSize("not one root")
    for _ in range(turns):
        middle = halfway(low, high)
        if how_many(one, low, middle) == 1:
            high = middle
        else:
            low = middle
    return (low, high)


def apart(one):
    """Return (low, high) for each root, rising, alone above its low, no more than its high; BadSize for a bare one."""
    end = bound(one)
    return tuple(split(one, minus((0, 1), end), end))


def split(one, low, high):
    """Return (low, high) for each root above low and no more than high, rising."""
    found = []
    # The parts still to look at, the lowest at the end.
    waiting = [(low, high)]
    while len(waiting) > 0:
        below, above = waiting.pop()
        count = how_many(one, below, above)
        if count == 1:
            found.append((below, above))
        if count > 1:
            middle = halfway(below, above)
            waiting.append((middle, above))
            waiting.append((below, middle))
    return found


def never_below(one, low, high):
    """Tell whether a polynomial, a bare one too, is below nought nowhere between two parts.

    BadSize for high below low.
    """
    if is_less(high, low):
        raise BadSize("the high is below the low")
    if len(one) == 0:
        return True
    return all([sign_at(one, at) >= 0 for at in samples(one, low, high)])


def samples(one, low, high):
    """Return two parts, and for each root above the first, no more than the second, one ahead of it.

    It stands between the root and the one ahead, or the first part; where it can be, where the root was
    parted from the others. BadSize for a bare one, or for high below low.
    """
    each_once = plain(one)
    found = [low, high]
    for below, above in split(one, low, high):
        at = below
        # On the root before, or on a first part that is a root itself, nothing shows; further on it does.
        if sign_at(each_once, below) == 0:
            at = halfway(below, above)
            while how_many(one, below, at) != 0:
                at = halfway(below, at)
        found.append(at)
    return tuple(found)


def sign_at(one, at):
    """Return -1, 0 or 1 by what a polynomial is at a part."""
    top = worth(one, at)[0]
    if top == 0:
        return 0
    return 1 if top > 0 else -1


def inside_circle(one):
    """Tell whether all roots, in the plane too, lie within the circle of one, by lesser and lesser polynomials.

    BadSize for a bare one.
    """
    if len(one) == 0:
        raise BadSize("a bare polynomial is nought everywhere")
    while len(one) > 1:
        # The first part by the last is the product of all roots but for its sign.
        share = over(one[0], one[-1])
        if not is_less(size_of(share), (1, 1)):
            return False
        # Less its turned row so often, the first part goes; as many of the other roots stay within.
        turned = one[::-1]
        one = curve([minus(mine, times(share, its)) for mine, its in zip(one[1:], turned[1:])])
    return True
