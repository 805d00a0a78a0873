"""Nodes: rules made of places alone, by areas under curves through them, and rows of weights for any part of a step."""

from stepwright.areas import base_of, by_places, is_one_twice
from stepwright.curves import added, area_under, curve, powers, scaled_curve, worth
from stepwright.errors import BadSize, BadTable
from stepwright.parts import dot, minus, over, part, raised, total
from stepwright.tables import Table
from stepwright.trees import MOST_KNOTS, density, order, trees_of


def check_places(places):
    """Return places, one or more, each once; BadTable."""
    found = tuple(places)
    if found == () or is_one_twice(found):
        raise BadTable("no places, or one twice")
    return found


def bases(places):
    """Return, for each place, the lowest curve that is one there and nought at the others; BadTable."""
    found = check_places(places)
    return tuple([base_of(found, at) for at in range(len(found))])


def by_nodes(places):
    """Return the table of the areas under the places' curves up to each place, and up to one; BadTable."""
    areas = part_weights(places)
    return Table([worths_at(areas, place) for place in places], worths_at(areas, (1, 1)))


def worths_at(curves, at):
    """Return what each of some curves is at a part."""
    return tuple([worth(one, at) for one in curves])


def part_weights(places):
    """Return, for each place, the curve of its weight for any part of the step; BadTable."""
    return tuple([area_under(one) for one in bases(places)])


def part_lack(table, weights, tree, at):
    """Return a tree's weight by curves of weights at a part of the step, less the part's power by the density."""
    due = over(raised(at, order(tree)), (density(tree), 1))
    return minus(dot(worths_at(weights, at), table.inner(tree)), due)


def part_order(table, weights, most):
    """Return up to how many knots no tree lacks at any part of the step, no more than told; BadSize, BadTable."""
    if not 0 <= most <= MOST_KNOTS:
        raise BadSize(f"no order up to {most} is told")
    check_stages(table, weights)
    for knots in range(1, most + 1):
        if any(lacks_in_parts(table, weights, tree) for tree in trees_of(knots)):
            return knots - 1
    return most


def lacks_in_parts(table, weights, tree):
    """Tell whether a tree lacks at any part of the step."""
    found = ()
    for one, by in zip(weights, table.inner(tree)):
        found = added(found, scaled_curve(one, by))
    return found != scaled_curve(powers(order(tree)), (1, density(tree)))


def check_stages(table, weights):
    """Refuse another count of weights than a rule has stages; BadTable."""
    if len(weights) != table.stages():
        raise BadTable(f"{len(weights)} weights for {table.stages()} stages")


def straight_weights(table):
    """Return, for each stage, the curve of its weight times the part of the step."""
    return tuple([curve([(0, 1), weight]) for weight in table.weights])


def same_weights(places):
    """Tell whether a rule made of places has the weights of the areas' rule with them; BadTable."""
    return by_nodes(places).weights == by_places(places).weights


def joined_pair(table, weights):
    """Return the table of a rule with other weights, for telling an error beside it; BadTable for another count."""
    check_stages(table, weights)
    return Table(table.shares, weights)


def lesser_weights(table, others):
    """Return each stage's weight less another's; BadTable for another count."""
    check_stages(table, others)
    return tuple([minus(weight, other) for weight, other in zip(table.weights, others)])


def grown_table(table):
    """Return the table with one stage more, the step itself, of no weight: its slope is the next step's first.

    BadTable unless the first stage has no shares.
    """
    # A rule's first place is its shares' sum, so without shares it is nought.
    if any(one[0] != 0 for one in table.shares[0]):
        raise BadTable("the first stage has shares")
    bare = ((0, 1),)
    return Table([row + bare for row in table.shares + (table.weights,)], table.weights + bare)


def at_part(table, weights, at):
    """Return the table of a rule's step to a part of the step, by curves of weights; BadTable for another count."""
    check_stages(table, weights)
    return Table(table.shares, worths_at(weights, at))


def sum_of_weights(weights, at):
    """Return the sum of curves' worth at a part."""
    return total(worths_at(weights, at))


def even_places(count):
    """Return so many even places from nought to one; BadSize below two."""
    if count < 2:
        raise BadSize(f"no {count} even places from nought to one")
    return tuple([part(at, count - 1) for at in range(count)])
