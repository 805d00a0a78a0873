"""Series: numbers for trees, as rules have them, one behind another, undone, and known ones."""

from stepwright.errors import BadSize, NoSuch
from stepwright.parts import greatest_pair, minus, over, part, plus, product, times, total
from stepwright.trees import cuts, density, height, order, trees_up_to


class Series:
    """A table of all trees up to so many knots to parts, handed in as one; the bare tree's is one."""

    def __init__(self, count, values):
        self.rows = {tree: part(values[tree][0], values[tree][1]) for tree in trees_up_to(count)}
        self.count = count

    def at(self, tree):
        """Return a tree's part; NoSuch."""
        # Taller ones come first: a key of a table can't be nested as deep as a tree can.
        if not isinstance(tree, tuple) or height(tree) > self.count or tree not in self.rows:
            raise NoSuch(f"no such tree up to {self.count} knots")
        return self.rows[tree]

    def behind(self, other):
        """Return the series of this one first, then another; BadSize for another count.

        For each way to cut a tree it is the other's part of what's left times this one's of what's cut off,
        and this one's of the whole.
        """
        check_counts(self, other)
        found = {}
        for tree in self.rows:
            found[tree] = plus(sum_of_cuts(cuts(tree), other.rows, self.rows), self.rows[tree])
        return Series(self.count, found)

    def undone(self):
        """Return the series that, behind this one, leaves all as it was."""
        found = {}
        for tree in self.rows:
            # The way that cuts nothing off is left out: it is just the part that is looked for,
            # and all others leave lesser trees, whose parts are there already.
            ways = [(left, off) for left, off in cuts(tree) if off != ()]
            due = plus(sum_of_cuts(ways, found, self.rows), self.rows[tree])
            found[tree] = minus((0, 1), due)
        return Series(self.count, found)

    def scaled(self, by):
        """Return the series with the step so many times as long."""
        return Series(self.count, {tree: times(self.rows[tree], product([by] * order(tree))) for tree in self.rows})

    def is_exact_to(self):
        """Return up to how many knots each tree's part is one by its density."""
        return same_to(self, exact(self.count))

    def shown(self):
        """Return ((tree, part), ..), fewer knots first."""
        return tuple([(tree, self.rows[tree]) for tree in trees_up_to(self.count)])


def check_counts(one, other):
    """Refuse two series of other counts; BadSize."""
    if one.count != other.count:
        raise BadSize(f"series of up to {one.count} and {other.count} knots")


def sum_of_cuts(ways, left_rows, off_rows):
    """Return the sum, over ways to cut, of the part of what is left times the parts of all cut off."""
    return total([times(left_rows[left], product([off_rows[branch] for branch in off])) for left, off in ways])


def nothing(count):
    """Return the series that leaves all as it was; BadSize."""
    return Series(count, {tree: (0, 1) for tree in trees_up_to(count)})


def exact(count):
    """Return the series of the motion itself; BadSize."""
    return Series(count, {tree: (1, density(tree)) for tree in trees_up_to(count)})


def of_table(table, count):
    """Return a rule's series; BadSize."""
    return Series(count, {tree: table.weight(tree) for tree in trees_up_to(count)})


def same_to(one, other):
    """Return up to how many knots two series are the same; BadSize for other counts."""
    check_counts(one, other)
    # Fewer knots come first, so the first tree that differs has the least.
    for tree in one.rows:
        if one.rows[tree] != other.rows[tree]:
            return order(tree) - 1
    return one.count


def turned_series(one):
    """Return the series of the rule that undoes a step with its length turned about."""
    return one.undone().scaled((-1, 1))


def greatest_lack(one):
    """Return the (tree, part less one by the density) greatest without its sign, the first such; NoSuch for none."""
    lacks = [(tree, minus(one.rows[tree], (1, density(tree)))) for tree in one.rows]
    best = greatest_pair([(tree, lack) for tree, lack in lacks if lack[0] != 0])
    if best is None:
        raise NoSuch("no lack")
    return best


def mean_of(one, other):
    """Return the series of half of each; BadSize for other counts."""
    check_counts(one, other)
    return Series(one.count, {tree: over(plus(one.rows[tree], other.rows[tree]), (2, 1)) for tree in one.rows})
