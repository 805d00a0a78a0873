"""Tables: how a rule steps: shares of earlier slopes for each stage, weights of all, and orders shown by trees."""

from stepwright.errors import BadPaper, BadSize, BadTable
from stepwright.parts import dot, minus, plus, product, scaled, small_row, times, total
from stepwright.trees import MOST_KNOTS, check_tree, density, order, trees_of, trees_up_to


class Table:
    """Rows of shares, one for each stage, and weights; the places are the rows' sums."""

    def __init__(self, shares, weights):
        self.shares = tuple([small_row(row) for row in shares])
        self.weights = small_row(weights)
        if self.weights == () or any(len(row) != len(self.weights) for row in self.shares):
            raise BadTable("a rule has a weight at least, and in each row a share for each weight")
        if len(self.shares) != len(self.weights):
            raise BadTable(f"{len(self.shares)} rows of shares and {len(self.weights)} weights")
        self.places = tuple([total(row) for row in self.shares])

    def stages(self):
        """Return how many stages there are."""
        return len(self.weights)

    def is_plain(self):
        """Tell whether each stage hangs on earlier ones alone."""
        return none_from(self.shares, 0)

    def is_stepwise(self):
        """Tell whether no stage hangs on later ones, itself aside."""
        return none_from(self.shares, 1)

    def inner(self, tree):
        """Return, for each stage, the product of its shares with the branches' inner rows."""
        rows = [self.inner(branch) for branch in tree]
        return tuple([product([dot(shares, row) for row in rows]) for shares in self.shares])

    def weight(self, tree):
        """Return a tree's weight: the weights with its inner row; BadTree."""
        return dot(self.weights, self.inner(check_tree(tree)))

    def lack(self, tree):
        """Return a tree's weight less one by its density; BadTree."""
        return minus(self.weight(tree), (1, density(tree)))

    def order(self, most):
        """Return the greatest count of knots up to which no tree lacks, no more than so many; BadSize."""
        if not 0 <= most <= MOST_KNOTS:
            raise BadSize(f"no order up to {most} is told")
        for knots in range(1, most + 1):
            if any(self.lack(tree)[0] != 0 for tree in trees_of(knots)):
                return knots - 1
        return most

    def shown(self):
        """Return (shares, weights)."""
        return (self.shares, self.weights)


def none_from(shares, behind_it):
    """Tell whether no stage has a share of the stage that stands so many behind it, or of a later one."""
    return all([one[0] == 0 for stage, row in enumerate(shares) for one in row[stage + behind_it:]])


def paper_of(table, count):
    """Return the (tree, weight) of all trees up to so many knots; BadSize."""
    return tuple([(tree, table.weight(tree)) for tree in trees_up_to(count)])


def check_paper(table, count, rows):
    """Return the order that rows show: weights right, the least knots of a lacking tree less one; BadPaper, BadSize."""
    if [tree for tree, weight in rows] != list(trees_up_to(count)):
        raise BadPaper(f"a paper has all trees up to {count} knots, fewer ones first")
    shown = count
    for tree, weight in rows:
        if table.weight(tree) != weight:
            raise BadPaper("a tree has another weight than the paper tells")
        if weight != (1, density(tree)):
            shown = min(shown, order(tree) - 1)
    return shown


def place_powers(table, power):
    """Return a rule's places, each so often times itself."""
    return tuple([product([place] * power) for place in table.places])


def evenly(table, count):
    """Tell whether weights with each power of places up to so many, less one, come to one by the count; BadSize."""
    if count < 0:
        raise BadSize(f"no powers up to {count}")
    return all([dot(table.weights, place_powers(table, power)) == (1, power + 1) for power in range(count)])


def stage_order(table, most):
    """Return the greatest count, no more than so many, to which all stages are even; BadSize.

    They are so where at each stage the shares with each power of places, less one, come to the place's
    power by the count.
    """
    if most < 0:
        raise BadSize(f"no stage order up to {most} is told")
    for count in range(1, most + 1):
        lesser = place_powers(table, count - 1)
        due = scaled(place_powers(table, count), (1, count))
        if tuple([dot(row, lesser) for row in table.shares]) != due:
            return count - 1
    return most


def keeps_squares(table):
    """Tell whether for all stages weight times share, and turned about, come to the product of the weights."""
    stages = range(table.stages())
    return all([pair_comes_to_product(table, a, b) for a in stages for b in stages])


def pair_comes_to_product(table, a, b):
    """Tell whether for two stages weight times share, and turned about, come to the product of their weights."""
    mine = times(table.weights[a], table.shares[a][b])
    its = times(table.weights[b], table.shares[b][a])
    return plus(mine, its) == times(table.weights[a], table.weights[b])


def turned_back(table):
    """Return the table that undoes a step with the step's length turned about, stages in the other order."""
    weights = table.weights[::-1]
    shares = [
        [minus(weight, share) for weight, share in zip(weights, row[::-1])]
        for row in table.shares[::-1]
    ]
    return Table(shares, weights)


def behind(first, second, part_of_step):
    """Return the table of a first rule for a part of the step, then a second for the rest."""
    rest = minus((1, 1), part_of_step)
    weights = scaled(first.weights, part_of_step)
    bare = ((0, 1),) * second.stages()
    early = [scaled(row, part_of_step) + bare for row in first.shares]
    late = [weights + scaled(row, rest) for row in second.shares]
    return Table(early + late, weights + scaled(second.weights, rest))


def is_same_back(table):
    """Tell whether a rule, undone, is itself, stages in the order told or the other."""
    back = turned_back(table)
    other = (tuple([row[::-1] for row in back.shares[::-1]]), back.weights[::-1])
    return table.shown() in (back.shown(), other)
