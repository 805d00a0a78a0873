"""Trees: a root and lesser trees on it, in order, how many there are, and what is told of each."""

from stepwright.errors import BadSize, BadTree

LEAF = ()
MOST_KNOTS = 8


def grown(branches):
    """Return the tree of a root and branches, in order."""
    return tuple(sorted(branches))


def check_tree(tree):
    """Return a tree whose branches all are in order; BadTree."""
    if not isinstance(tree, tuple):
        raise BadTree("a tree is the tuple of its branches")
    # The branches come first: only what is known to be a tree can be put in order.
    for branch in tree:
        check_tree(branch)
    if grown(tree) != tree:
        raise BadTree("branches that aren't in order")
    return tree


def order(tree):
    """Return how many knots a tree has."""
    knots = 1
    for branch in tree:
        knots += order(branch)
    return knots


def height(tree):
    """Return how many knots stand one on another at most."""
    most = 0
    for branch in tree:
        most = max(most, height(branch))
    return most + 1


def leaves(tree):
    """Return how many knots have no branches."""
    if tree == LEAF:
        return 1
    count = 0
    for branch in tree:
        count += leaves(branch)
    return count


def density(tree):
    """Return a tree's knots, times the densities of its branches."""
    found = order(tree)
    for branch in tree:
        found = found * density(branch)
    return found


def symmetry(tree):
    """Return in how many ways a tree can be laid on itself."""
    found = 1
    run = 0
    before = None
    for branch in tree:
        # Like branches stand side by side, so counting each within its run multiplies up
        # to the number of ways to exchange them.
        run = run + 1 if branch == before else 1
        found = found * run * symmetry(branch)
        before = branch
    return found


def up_to(number):
    """Return the product of all numbers from one up to a number; BadSize below nought."""
    if number < 0:
        raise BadSize(f"no numbers from one up to {number}")
    found = 1
    for one in range(1, number + 1):
        found = found * one
    return found


def rising_ways(tree):
    """Return in how many ways a tree's knots can be numbered, rising from the root, alike ways once."""
    return up_to(order(tree)) // (symmetry(tree) * density(tree))


def trees_of(count):
    """Return all trees of so many knots, in order; BadSize below one or past eight."""
    if not 0 < count <= MOST_KNOTS:
        raise BadSize(f"no trees of {count} knots are told")
    return tuple(forests(count - 1, count - 1, None))


def forests(count, most, last):
    """Return all trees of a root and so many knots, branches of a count at most, behind a (knots, tree) or None.

    Behind a last branch stand those that follow it, fewer knots first, then as tuples rise;
    one like it may stand behind it too.
    """
    pool = [(knots, tree) for knots in range(1, min(count, most) + 1) for tree in trees_of(knots)]
    if last is not None:
        pool = [pair for pair in pool if pair >= tuple(last)]
    return sorted([grown(row) for row in branch_rows(count, pool)])


def branch_rows(count, pool):
    """Return the rows of branches, so many knots in all, that a rising pool of (knots, tree) gives, each once."""
    if count == 0:
        return [()]
    found = []
    for place, (knots, tree) in enumerate(pool):
        if knots > count:
            break
        # Never back to an earlier branch: else a row would come again in another order.
        for rest in branch_rows(count - knots, pool[place:]):
            found.append((tree,) + rest)
    return found


def trees_up_to(count):
    """Return all trees of one up to so many knots, fewer ones first; BadSize."""
    if not 0 <= count <= MOST_KNOTS:
        raise BadSize(f"no trees of up to {count} knots are told")
    return tuple([tree for knots in range(1, count + 1) for tree in trees_of(knots)])


def joined(one, other):
    """Return the tree of one with another put on its root."""
    return grown(one + (other,))


def told_tree(tree):
    """Return a tree's text: its branches' texts in brackets."""
    text = "("
    for branch in tree:
        text = text + told_tree(branch)
    return text + ")"


def read_tree(text):
    """Return a text's tree, branches put in order; BadTree."""
    tree, place = read_from(text, 0)
    if place != len(text):
        raise BadTree(f"more behind a tree at place {place}")
    return tree


def read_from(text, place):
    """Return (tree, place behind) of the tree that begins at a place; BadTree."""
    if text[place:place + 1] != "(":
        raise BadTree(f"no bracket at place {place}")
    place += 1
    branches = []
    while text[place:place + 1] == "(":
        branch, place = read_from(text, place)
        branches.append(branch)
    if text[place:place + 1] != ")":
        raise BadTree(f"a tree without an end at place {place}")
    return (grown(branches), place + 1)


def cuts(tree):
    """Return the (what is left at the root, branches cut off) of all ways to cut, the root kept.

    For each branch, in order, it is cut off first, then comes each way to cut it.
    """
    found = [((), ())]
    for branch in tree:
        ways = [((), (branch,))] + [((left,), off) for left, off in cuts(branch)]
        found = [(kept + left, gone + off) for kept, gone in found for left, off in ways]
    # What is left of a branch may have another place in the order than the branch had.
    return [(grown(kept), gone) for kept, gone in found]


def tall(count):
    """Return the tree of so many knots one on another; BadSize below one."""
    if count < 1:
        raise BadSize(f"no tree of {count} knots")
    tree = LEAF
    for _ in range(count - 1):
        tree = (tree,)
    return tree


def bushy(count):
    """Return the tree of a root and so many knots on it less one; BadSize below one."""
    if count < 1:
        raise BadSize(f"no tree of {count} knots")
    return (LEAF,) * (count - 1)
