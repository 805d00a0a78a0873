"""Parts: exact numbers, (top, low) made small, the low above nought, and rows of them."""

from math import gcd

from stepwright.errors import BadPart

FIGURES = "0123456789"
MOST_FIGURES = 12


def shared(one, other):
    """Return the greatest number that goes into both, nought for two noughts."""
    return gcd(one, other)


def part(top, low=1):
    """Return a part made small; BadPart by nought."""
    if low == 0:
        raise BadPart("a part by nought")
    by = shared(top, low)
    if low < 0:
        by = -by
    return (top // by, low // by)


def plus(one, other):
    """Return the sum of two parts."""
    return part(one[0] * other[1] + other[0] * one[1], one[1] * other[1])


def minus(one, other):
    """Return the difference of two parts."""
    return part(one[0] * other[1] - other[0] * one[1], one[1] * other[1])


def times(one, other):
    """Return the product of two parts."""
    return part(one[0] * other[0], one[1] * other[1])


def over(one, other):
    """Return a part by another; BadPart by nought."""
    return part(one[0] * other[1], one[1] * other[0])


def is_less(one, other):
    """Tell whether a part is less than another."""
    return one[0] * other[1] < other[0] * one[1]


def size_of(one):
    """Return a part without its sign."""
    return (abs(one[0]), one[1])


def total(parts):
    """Return the sum of parts."""
    found = (0, 1)
    for one in parts:
        found = plus(found, one)
    return found


def product(parts):
    """Return the product of parts, one for none."""
    found = (1, 1)
    for one in parts:
        found = times(found, one)
    return found


def raised(one, count):
    """Return a part so often times itself; BadPart below nought."""
    if count < 0:
        raise BadPart(f"a part can't be raised to {count}")
    return product([one] * count)


def told(one):
    """Return a part as it is written: the top, and a stroke and the low where it isn't one."""
    if one[1] == 1:
        return str(one[0])
    return f"{one[0]}/{one[1]}"


def read(text):
    """Return a written part: a whole number, or two with a stroke between; BadPart."""
    top, stroke, low = text.partition("/")
    if not is_number(top.removeprefix("-")):
        raise BadPart(f"no part: {text}")
    if stroke == "":
        return part(int(top))
    if not is_number(low):
        raise BadPart(f"no part: {text}")
    return part(int(top), int(low))


def is_number(text):
    """Tell whether a text is one to twelve figures."""
    # Only these ten signs are figures: isdigit would let in those of other scripts.
    return 0 < len(text) <= MOST_FIGURES and text.strip(FIGURES) == ""


def scaled(row, by):
    """Return a row of parts times one."""
    return tuple([times(one, by) for one in row])


def rows_added(one, other):
    """Return the sums of two rows' parts; BadPart for unlike lengths."""
    check_lengths(one, other)
    return tuple([plus(mine, its) for mine, its in zip(one, other)])


def dot(one, other):
    """Return the sum of two rows' products; BadPart for unlike lengths."""
    check_lengths(one, other)
    return total([times(mine, its) for mine, its in zip(one, other)])


def check_lengths(one, other):
    """Refuse two rows of unlike lengths; BadPart."""
    if len(one) != len(other):
        raise BadPart(f"rows of {len(one)} and {len(other)} parts")


def small_row(row):
    """Return a row of parts, each made small; BadPart."""
    return tuple([part(one[0], one[1]) for one in row])


def halfway(one, other):
    """Return the part halfway between two parts."""
    return over(plus(one, other), (2, 1))


def greatest(parts):
    """Return the greatest of parts, nought where none is above it."""
    most = (0, 1)
    for one in parts:
        if is_less(most, one):
            most = one
    return most


def greatest_pair(pairs):
    """Return the (name, part) whose part is greatest without its sign, the first such, None for none."""
    best = None
    for name, one in pairs:
        if best is None or is_less(size_of(best[1]), size_of(one)):
            best = (name, one)
    return best
