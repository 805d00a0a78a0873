"""Curves: polynomials of one letter, their lowest power first, without noughts at the end."""

from stepwright.errors import BadSize
from stepwright.parts import minus, over, plus, small_row, times


def curve(parts):
    """Return a polynomial of parts, the lowest power first, noughts at the end left out."""
    row = small_row(parts)
    size = len(row)
    while size > 0 and row[size - 1][0] == 0:
        size -= 1
    return row[:size]


def power_of(one):
    """Return a polynomial's highest power, one below nought for a bare one."""
    return len(one) - 1


def part_at(one, power):
    """Return a row's part for a power, nought where the row has none."""
    if 0 <= power < len(one):
        return one[power]
    return (0, 1)


def added(one, other):
    """Return the sum of two polynomials."""
    size = max(len(one), len(other))
    return curve([plus(part_at(one, power), part_at(other, power)) for power in range(size)])


def scaled_curve(one, by):
    """Return a polynomial times a part."""
    return curve([times(mine, by) for mine in one])


def taken(one, other):
    """Return a polynomial less another."""
    return added(one, scaled_curve(other, (-1, 1)))


def multiplied(one, other):
    """Return the product of two polynomials."""
    found = [(0, 1)] * (len(one) + len(other))
    for low, mine in enumerate(one):
        for high, its in enumerate(other):
            found[low + high] = plus(found[low + high], times(mine, its))
    return curve(found)


def divided(one, other):
    """Return (whole, rest) of a polynomial by another; BadPart by a bare one."""
    # A bare one's highest part is nought, so it is refused here, whatever is divided.
    back = over((1, 1), part_at(other, power_of(other)))
    rest = list(one)
    whole = []
    while len(rest) >= len(other):
        by = times(rest[-1], back)
        ahead = len(rest) - len(other)
        for power, its in enumerate(other):
            rest[ahead + power] = minus(rest[ahead + power], times(by, its))
        rest.pop()
        whole.append(by)
    return (curve(whole[::-1]), curve(rest))


def worth(one, at):
    """Return what a polynomial is at a part."""
    found = (0, 1)
    for mine in reversed(one):
        found = plus(times(found, at), mine)
    return found


def slope(one):
    """Return a polynomial's slope."""
    return curve([times(one[power], (power, 1)) for power in range(1, len(one))])


def area_under(one):
    """Return the polynomial whose slope one is and that is nought at nought."""
    return curve([(0, 1)] + [over(mine, (power + 1, 1)) for power, mine in enumerate(one)])


def between(one, low, high):
    """Return the area under a polynomial between two parts."""
    area = area_under(one)
    return minus(worth(area, high), worth(area, low))


def through(points):
    """Return the lowest polynomial through (place, part) points; BadPart for a place twice."""
    found = ()
    for at, (place, mine) in enumerate(points):
        base = curve([mine])
        for other, _ in points[:at] + points[at + 1:]:
            apart = minus(place, other)
            # Nought at the other place, one at its own: a place twice would be a share by nought.
            base = multiplied(base, curve([over(minus((0, 1), other), apart), over((1, 1), apart)]))
        found = added(found, base)
    return found


def put_in(one, other):
    """Return a polynomial with another in its letter's place."""
    found = ()
    for mine in reversed(one):
        found = added(multiplied(found, other), curve([mine]))
    return found


def shared_curve(one, other):
    """Return the highest polynomial that goes into both, its highest part one, a bare one for two bare ones."""
    while len(other) > 0:
        one, other = other, divided(one, other)[1]
    if len(one) == 0:
        return ()
    return scaled_curve(one, over((1, 1), one[-1]))


def powers(count):
    """Return the polynomial that is the letter so often times itself; BadSize below nought."""
    if count < 0:
        raise BadSize(f"no power {count}")
    return ((0, 1),) * count + ((1, 1),)
