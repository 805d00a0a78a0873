"""Flows: a motion's and a rule's steps as rows of powers of the step's length, side by side, power by power."""

from stepwright.curves import part_at, worth
from stepwright.errors import BadField, BadSize
from stepwright.parts import minus, over, plus, rows_added, scaled, times, total
from stepwright.trees import MOST_KNOTS, symmetry, trees_of


def check_count(count):
    """Return a count from nought to eight; BadSize."""
    if not 0 <= count <= MOST_KNOTS:
        raise BadSize(f"no powers up to {count} are told")
    return count


def power_product(one, other, count):
    """Return the product of two rows of powers, up to a count of them."""
    found = [(0, 1)] * (count + 1)
    for low, mine in enumerate(one[:count + 1]):
        for high, its in enumerate(other[:count + 1 - low]):
            found[low + high] = plus(found[low + high], times(mine, its))
    return found


def poly_of_rows(one, rows, count):
    """Return what a polynomial is with rows of powers in its letters' places, up to a count."""
    found = [(0, 1)] * (count + 1)
    for key, mine in one.items():
        term = [mine] + [(0, 1)] * count
        for power, row in zip(key, rows):
            for _ in range(power):
                term = power_product(term, row, count)
        found = [plus(so_far, more) for so_far, more in zip(found, term)]
    return found


def motion(field, point, count):
    """Return, for each letter, the motion's row of powers up to a count, from a point; BadField, BadSize."""
    rows = [[one] for one in check_point(field, point)]
    for power in range(check_count(count)):
        # The slope's part for a power is the next power's times that: it hangs on lesser powers alone.
        slopes = [poly_of_rows(one, rows, power) for one in field.polys]
        rows = [row + [over(slope[power], (power + 1, 1))] for row, slope in zip(rows, slopes)]
    return tuple([tuple(row) for row in rows])


def check_point(field, point):
    """Return a point of as many parts as a field's letters; BadField."""
    if len(point) != field.size():
        raise BadField(f"a point of {len(point)} parts for {field.size()} letters")
    return tuple(point)


def step_rows(table, field, point, count):
    """Return, for each letter, the rule's step's row of powers up to a count, from a point; BadField, BadSize."""
    start = check_point(field, point)
    most = check_count(count)
    slopes = [[()] * field.size()] * table.stages()
    # Each turn makes one power more of all slopes right, also where stages hang on themselves:
    # a slope's power hangs on lesser powers of the slopes alone.
    for _ in range(most):
        inner = [inner_point(start, shares, slopes, most) for shares in table.shares]
        slopes = [[poly_of_rows(one, rows, most) for one in field.polys] for rows in inner]
    return tuple([tuple(row) for row in inner_point(start, table.weights, slopes, most)])


def inner_point(point, shares, slopes, count):
    """Return, for each letter, the point and the step's length times shares of slopes, in powers up to a count."""
    found = []
    for letter, one in enumerate(point):
        row = [one]
        for power in range(count):
            row.append(total([times(share, part_at(slope[letter], power)) for share, slope in zip(shares, slopes)]))
        found.append(row)
    return found


def by_trees(values, field, point, count):
    """Return, for each letter, the row of powers told by a function of trees; BadField, BadSize.

    It is a tree's part over the symmetry, times the row that the tree tells.
    """
    start = check_point(field, point)
    columns = [start]
    for knots in range(1, check_count(count) + 1):
        columns.append(sum_of_trees(values, field, start, knots))
    return tuple([tuple([column[letter] for column in columns]) for letter in range(field.size())])


def sum_of_trees(values, field, point, knots):
    """Return the row told by all trees of so many knots together."""
    found = ((0, 1),) * field.size()
    for tree in trees_of(knots):
        share = over(values(tree), (symmetry(tree), 1))
        found = rows_added(found, scaled(field.of_tree(tree, point), share))
    return found


def agree_to(one, other):
    """Return up to which power two rows of rows are the same, one below nought for none."""
    most = min([len(row) for rows in (one, other) for row in rows], default=0)
    for power in range(most):
        if [row[power] for row in one] != [row[power] for row in other]:
            return power - 1
    return most - 1


def step(table, field, point, length):
    """Return the point behind a step of a length by a plain rule; BadField for a rule that isn't plain."""
    if not table.is_plain():
        raise BadField("a rule whose stages hang on later ones or on themselves")
    start = check_point(field, point)
    return moved(start, table.weights, stage_slopes(table, field, start, length), length)


def stage_slopes(table, field, point, length):
    """Return the row of slopes at each stage of a plain rule's step."""
    slopes = []
    for shares in table.shares:
        slopes.append(field.at(moved(point, shares, slopes, length)))
    return slopes


def moved(point, shares, slopes, length):
    """Return a point and a length times shares of rows of slopes."""
    found = []
    for letter, one in enumerate(point):
        # Slopes may be fewer than shares: those of later stages aren't there yet, and not asked.
        way = total([times(share, slope[letter]) for share, slope in zip(shares, slopes)])
        found.append(plus(one, times(length, way)))
    return tuple(found)


def steps(table, field, point, length, count):
    """Return the points from the first on, so many steps behind each other; BadField, BadSize below nought."""
    if count < 0:
        raise BadSize(f"no {count} steps")
    points = [check_point(field, point)]
    for _ in range(count):
        points.append(step(table, field, points[-1], length))
    return tuple(points)


def worth_of_rows(rows, length):
    """Return the point that rows of powers tell at a length."""
    return tuple([worth(row, length) for row in rows])


def lack_rows(one, other):
    """Return the rows less others, power by power."""
    return tuple([
        tuple([minus(mine, its) for mine, its in zip(row, its_row)])
        for row, its_row in zip(one, other)
    ])
