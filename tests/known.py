"""Known rules, with their known orders, and other ways to reckon, for the tests of several modules."""

import itertools
import math
from fractions import Fraction

from stepwright.fields import Field
from stepwright.tables import Table


def as_part(number):
    """Tell a whole number, a fraction or a text of one as a part."""
    found = Fraction(number)
    return (found.numerator, found.denominator)


def parts_of(text):
    """Read a row of parts with blanks between."""
    return tuple(as_part(word) for word in text.split())


def table_of(rows, weights):
    """Read a table: rows with semicolons between, and weights."""
    return Table([parts_of(row) for row in rows.split(";")], parts_of(weights))


def fractions_of(row):
    return [Fraction(*one) for one in row]


EULER = table_of("0", "1")
END = table_of("1", "1")
MIDDLE = table_of("1/2", "1")
TWO_MIDDLE = table_of("0 0; 1/2 0", "0 1")
TWO_END = table_of("0 0; 1 0", "1/2 1/2")
TWO_THIRDS = table_of("0 0; 2/3 0", "1/4 3/4")
TRAPEZE = table_of("0 0; 1/2 1/2", "1/2 1/2")
RADAU = table_of("5/12 -1/12; 3/4 1/4", "3/4 1/4")
STEPWISE = table_of("1/3 0; 1/2 1/4", "2/5 3/5")
THREE = table_of("0 0 0; 1/2 0 0; -1 2 0", "1/6 2/3 1/6")
THREE_THIRDS = table_of("0 0 0; 1/3 0 0; 0 2/3 0", "1/4 0 3/4")
LOBATTO = table_of("0 0 0; 5/24 1/3 -1/24; 1/6 2/3 1/6", "1/6 2/3 1/6")
FOUR = table_of("0 0 0 0; 1/2 0 0 0; 0 1/2 0 0; 0 0 1 0", "1/6 1/3 1/3 1/6")
FOUR_EIGHTHS = table_of("0 0 0 0; 1/3 0 0 0; -1/3 1 0 0; 1 -1 1 0", "1/8 3/8 3/8 1/8")
SIX = table_of(
    "0 0 0 0 0 0; 1/4 0 0 0 0 0; 1/8 1/8 0 0 0 0; 0 -1/2 1 0 0 0; 3/16 0 0 9/16 0 0; -3/7 2/7 12/7 -12/7 8/7 0",
    "7/90 0 16/45 2/15 16/45 7/90",
)
ODD = table_of("1/3 -2 0; 5/7 1 1/2; 0 3 -1/4", "2/3 -1 5/6")


def even_midsts(most):
    """Make the rule of the middle rule in one, two, .. even steps, put together so that errors' powers go.

    The middle rule undone is itself, so its error has even powers alone, and each row takes two of them.
    """
    size = sum(range(1, most + 1))
    shares, weights = [], []
    for count in range(1, most + 1):
        part_of_all = math.prod(Fraction(count ** 2, count ** 2 - other ** 2)
                                for other in range(1, most + 1) if other != count)
        for turn in range(count):
            row = [Fraction(1, count)] * turn + [Fraction(1, 2 * count)]
            row = [Fraction(0)] * (len(shares) - turn) + row
            shares.append(row + [Fraction(0)] * (size - len(row)))
            weights.append(part_of_all / count)
    return Table([[as_part(one) for one in row] for row in shares], [as_part(one) for one in weights])


ORDERS = (
    ("EULER", EULER, 1),
    ("END", END, 1),
    ("MIDDLE", MIDDLE, 2),
    ("TWO_MIDDLE", TWO_MIDDLE, 2),
    ("TWO_END", TWO_END, 2),
    ("TWO_THIRDS", TWO_THIRDS, 2),
    ("TRAPEZE", TRAPEZE, 2),
    ("RADAU", RADAU, 3),
    ("STEPWISE", STEPWISE, 1),
    ("THREE", THREE, 3),
    ("THREE_THIRDS", THREE_THIRDS, 3),
    ("LOBATTO", LOBATTO, 4),
    ("FOUR", FOUR, 4),
    ("FOUR_EIGHTHS", FOUR_EIGHTHS, 4),
    ("SIX", SIX, 5),
    ("ODD", ODD, 0),
)
RULES = tuple(table for name, table, order in ORDERS)


def rows_of_knots(tree):
    """Tell (the knot each knot stands on, how many stand on each, itself too), the root first."""
    parents, sizes = [], []

    def walk(knot, parent):
        at = len(parents)
        parents.append(parent)
        sizes.append(1)
        for branch in knot:
            sizes[at] += walk(branch, at)
        return sizes[at]

    walk(tree, -1)
    return parents, sizes


def due_part(tree):
    """Tell one by a tree's density, by the knots that stand on each knot."""
    return Fraction(1, math.prod(rows_of_knots(tree)[1]))


def weight_by_stages(table, tree):
    """Tell a tree's weight by all ways to put its knots on stages."""
    parents = rows_of_knots(tree)[0]
    shares = [fractions_of(row) for row in table.shares]
    weights = fractions_of(table.weights)
    found = Fraction(0)
    for way in itertools.product(range(len(weights)), repeat=len(parents)):
        one = weights[way[0]]
        for knot in range(1, len(parents)):
            one *= shares[way[parents[knot]]][way[knot]]
            if one == 0:
                break
        found += one
    return found


def are_tuples(found):
    """Tell whether rows and all rows within are tuples."""
    return not isinstance(found, list) and (
        not isinstance(found, tuple) or all(are_tuples(one) for one in found)
    )


def poly_rows(text):
    """Read the rows of a polynomial: terms with semicolons between, each a part, a star and powers with dots."""
    found = []
    for term in text.split(";"):
        if term.strip():
            one, _, letters = term.strip().partition("*")
            found.append((tuple(int(power) for power in letters.split(".")), as_part(one)))
    return tuple(found)


def field_of(*texts):
    """Read a field: a polynomial for each letter."""
    return Field([poly_rows(text) for text in texts])


GROWING = field_of("1*1")
SQUARING = field_of("1*2")
TURNING = field_of("-1*0.1", "1*1.0")
HUNTING = field_of("2/3*1.0; -4/3*1.1", "-1*0.1; 1*1.1")
TWISTING = field_of("1*0.1.1", "-1*1.0.1", "-1/2*1.1.0")
STEEP = field_of("1*0.0; -1/2*2.1; 1/3*0.3", "3*1.0; -1*1.2")
TIMED = field_of("1*0.0", "1*1.0; -2*0.2")
STILL = field_of("3/2*0.0", "")

# (field, a point of it)
MOTIONS = (
    (GROWING, parts_of("2/3")),
    (SQUARING, parts_of("-1/2")),
    (TURNING, parts_of("1/2 -3")),
    (HUNTING, parts_of("1/2 3/4")),
    (TWISTING, parts_of("1 -1/2 1/3")),
    (STEEP, parts_of("1/2 -1/3")),
    (TIMED, parts_of("0 2")),
    (STILL, parts_of("1/5 7")),
)
