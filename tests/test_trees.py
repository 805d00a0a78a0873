"""Tests of stepwright.trees: point 3, and point 1 as far as it concerns trees."""

import itertools
import math
import unittest

from stepwright import trees
from stepwright.errors import BadSize, BadTree, StepFault
from stepwright.trees import LEAF

TWO = ((),)
THREE = (((),),)
FORK = ((), ())
HOW_MANY = (1, 1, 2, 4, 9, 20, 48, 115)
UP_TO_SIX = trees.trees_up_to(6)


def sizes(tree):
    """Tell, for each knot, how many knots stand on it, itself too."""
    found = []
    mine = 1
    for branch in tree:
        rows = sizes(branch)
        mine += rows[0]
        found += rows
    return [mine] + found


def parents(tree):
    """Tell, for each knot in the order of a text's brackets, the knot that it stands on."""
    found, stack = [], []
    for sign in trees.told_tree(tree):
        if sign == "(":
            found.append(stack[-1] if stack else -1)
            stack.append(len(found) - 1)
        else:
            stack.pop()
    return found


def layings(tree):
    """Count the exchanges of knots that leave each on the knot it stood on."""
    rows = parents(tree)
    return sum(
        all(way[rows[knot]] == rows[way[knot]] for knot in range(1, len(rows)))
        for way in itertools.permutations(range(len(rows)))
        if way[0] == 0
    )


def numberings(tree):
    """Count the numberings that rise from the root."""
    rows = parents(tree)
    return sum(
        all(way[rows[knot]] < way[knot] for knot in range(1, len(rows)))
        for way in itertools.permutations(range(len(rows)))
    )


def is_in_order(tree):
    return list(tree) == sorted(tree) and all(is_in_order(branch) for branch in tree)


def are_tuples(tree):
    return type(tree) is tuple and all(are_tuples(branch) for branch in tree)


class MakingTests(unittest.TestCase):
    def test_grown_puts_branches_in_order(self):
        self.assertEqual(trees.grown([]), LEAF)
        self.assertEqual(trees.grown(()), LEAF)
        self.assertEqual(trees.grown([TWO, LEAF]), (LEAF, TWO))
        self.assertEqual(trees.grown((THREE, FORK, TWO, LEAF, TWO)), (LEAF, TWO, TWO, FORK, THREE))
        self.assertTrue(are_tuples(trees.grown([TWO, LEAF])))

    def test_order_is_that_of_tuples_not_of_knots(self):
        self.assertEqual(trees.grown([THREE, (LEAF, LEAF, LEAF)]), ((LEAF, LEAF, LEAF), THREE))

    def test_grown_leaves_the_row_as_it_was(self):
        row = [TWO, LEAF]
        trees.grown(row)
        self.assertEqual(row, [TWO, LEAF])

    def test_check_tree_gives_the_tree(self):
        for tree in UP_TO_SIX:
            self.assertEqual(trees.check_tree(tree), tree)

    def test_check_tree_refuses_branches_in_the_wrong_order(self):
        for tree in ((TWO, LEAF), (FORK, TWO), ((TWO, LEAF),), (LEAF, (LEAF, (TWO, LEAF)))):
            with self.subTest(tree), self.assertRaises(BadTree):
                trees.check_tree(tree)

    def test_check_tree_refuses_what_is_no_tree(self):
        for tree in (None, 0, 1, "", "()", [], [()], {}, (1,), ("",), ([],), ((), None), (((0,),),), ((), [()])):
            with self.subTest(tree), self.assertRaises(BadTree):
                trees.check_tree(tree)

    def test_the_errors_are_step_faults(self):
        with self.assertRaises(StepFault):
            trees.check_tree(None)

    def test_joined(self):
        self.assertEqual(trees.joined(LEAF, LEAF), TWO)
        self.assertEqual(trees.joined(TWO, LEAF), FORK)
        self.assertEqual(trees.joined(LEAF, TWO), THREE)
        self.assertEqual(trees.joined((TWO,), LEAF), (LEAF, TWO))
        self.assertEqual(trees.joined((LEAF, THREE), TWO), (LEAF, TWO, THREE))
        for one, other in itertools.product(trees.trees_up_to(4), repeat=2):
            found = trees.joined(one, other)
            self.assertTrue(are_tuples(found) and is_in_order(found))
            self.assertEqual(trees.order(found), trees.order(one) + trees.order(other))

    def test_tall_and_bushy(self):
        self.assertEqual(trees.tall(1), LEAF)
        self.assertEqual(trees.tall(2), TWO)
        self.assertEqual(trees.tall(4), ((((),),),))
        self.assertEqual(trees.bushy(1), LEAF)
        self.assertEqual(trees.bushy(2), TWO)
        self.assertEqual(trees.bushy(4), ((), (), ()))
        for count in range(1, 20):
            tall, bushy = trees.tall(count), trees.bushy(count)
            self.assertEqual((trees.order(tall), trees.height(tall)), (count, count))
            self.assertEqual((trees.order(bushy), trees.height(bushy)), (count, min(count, 2)))
            self.assertTrue(are_tuples(tall) and are_tuples(bushy))

    def test_tall_and_bushy_below_one_are_refused(self):
        for count in (0, -1, -8):
            with self.assertRaises(BadSize):
                trees.tall(count)
            with self.assertRaises(BadSize):
                trees.bushy(count)


class TellingTests(unittest.TestCase):
    def test_a_lone_knot(self):
        self.assertEqual(
            [deed(LEAF) for deed in (trees.order, trees.height, trees.leaves, trees.density, trees.symmetry)],
            [1, 1, 1, 1, 1],
        )
        self.assertEqual(trees.rising_ways(LEAF), 1)

    def test_known_trees(self):
        rows = (
            # tree, order, height, leaves, density, symmetry, rising ways
            (TWO, 2, 2, 1, 2, 1, 1),
            (FORK, 3, 2, 2, 3, 2, 1),
            (THREE, 3, 3, 1, 6, 1, 1),
            ((LEAF, LEAF, LEAF), 4, 2, 3, 4, 6, 1),
            ((LEAF, TWO), 4, 3, 2, 8, 1, 3),
            ((FORK,), 4, 3, 2, 12, 2, 1),
            ((THREE,), 4, 4, 1, 24, 1, 1),
            ((TWO, TWO), 5, 3, 2, 20, 2, 3),
            ((FORK, FORK), 7, 3, 4, 63, 8, 10),
            ((LEAF, LEAF, TWO, TWO), 7, 3, 4, 28, 4, 45),
        )
        for tree, *due in rows:
            with self.subTest(tree):
                found = [
                    deed(tree)
                    for deed in (
                        trees.order, trees.height, trees.leaves,
                        trees.density, trees.symmetry, trees.rising_ways,
                    )
                ]
                self.assertEqual(found, due)

    def test_order_height_and_leaves(self):
        for tree in UP_TO_SIX:
            text = trees.told_tree(tree)
            self.assertEqual(trees.order(tree), text.count("("))
            self.assertEqual(trees.leaves(tree), text.count("()"))
            ups = [text[:place].count("(") - text[:place].count(")") for place in range(len(text))]
            self.assertEqual(trees.height(tree), max(ups) if len(ups) > 2 else 1)

    def test_density_is_the_product_of_all_knots_sizes(self):
        for tree in trees.trees_up_to(8):
            self.assertEqual(trees.density(tree), math.prod(sizes(tree)))

    def test_symmetry_counts_the_ways_to_lay_a_tree_on_itself(self):
        for tree in UP_TO_SIX:
            self.assertEqual(trees.symmetry(tree), layings(tree))

    def test_rising_ways_count_alike_numberings_once(self):
        for tree in UP_TO_SIX:
            self.assertEqual(trees.rising_ways(tree) * layings(tree), numberings(tree))

    def test_all_rising_ways_and_all_numberings_of_so_many_knots(self):
        for count in range(1, 9):
            rows = trees.trees_of(count)
            self.assertEqual(sum(trees.rising_ways(tree) for tree in rows), math.factorial(count - 1))
            self.assertEqual(
                sum(math.factorial(count) // trees.symmetry(tree) for tree in rows), count ** (count - 1)
            )

    def test_rising_ways_past_eight_knots(self):
        self.assertEqual(trees.rising_ways(trees.bushy(12)), 1)
        self.assertEqual(trees.rising_ways(trees.tall(12)), 1)
        self.assertEqual(trees.rising_ways((trees.tall(5), trees.tall(6))), math.comb(11, 5))

    def test_up_to(self):
        for number in range(0, 30):
            self.assertEqual(trees.up_to(number), math.factorial(number))

    def test_up_to_below_nought_is_refused(self):
        for number in (-1, -7):
            with self.assertRaises(BadSize):
                trees.up_to(number)


class AllTreesTests(unittest.TestCase):
    def test_how_many_each_once_in_order(self):
        for count in range(1, 9):
            rows = trees.trees_of(count)
            self.assertIs(type(rows), tuple)
            self.assertEqual(len(rows), HOW_MANY[count - 1])
            self.assertEqual(len(set(rows)), len(rows))
            self.assertEqual(list(rows), sorted(rows))
            for tree in rows:
                self.assertTrue(are_tuples(tree) and is_in_order(tree))
                self.assertEqual(trees.order(tree), count)

    def test_first_ones(self):
        self.assertEqual(trees.trees_of(1), (LEAF,))
        self.assertEqual(trees.trees_of(2), (TWO,))
        self.assertEqual(trees.trees_of(3), (FORK, THREE))
        self.assertEqual(trees.trees_of(4), ((LEAF, LEAF, LEAF), (LEAF, TWO), (FORK,), (THREE,)))

    def test_trees_of_is_refused_below_one_and_past_eight(self):
        for count in (0, -1, 9, 10, 100):
            with self.assertRaises(BadSize):
                trees.trees_of(count)

    def test_trees_up_to(self):
        self.assertEqual(trees.trees_up_to(0), ())
        self.assertEqual(trees.trees_up_to(1), (LEAF,))
        self.assertEqual(trees.trees_up_to(3), (LEAF, TWO, FORK, THREE))
        for count in range(0, 9):
            rows = trees.trees_up_to(count)
            self.assertIs(type(rows), tuple)
            self.assertEqual(rows, sum([trees.trees_of(knots) for knots in range(1, count + 1)], ()))

    def test_trees_up_to_is_refused_below_nought_and_past_eight(self):
        for count in (-1, -2, 9, 10):
            with self.assertRaises(BadSize):
                trees.trees_up_to(count)

    def test_forests_behind_none(self):
        for count in range(0, 8):
            for most in range(0, 9):
                due = [
                    tree for tree in trees.trees_of(count + 1)
                    if all(trees.order(branch) <= most for branch in tree)
                ]
                found = trees.forests(count, most, None)
                self.assertIs(type(found), list)
                self.assertEqual(found, due)

    def test_forests_behind_a_branch(self):
        for count in range(0, 7):
            for last in [(trees.order(tree), tree) for tree in trees.trees_up_to(4)]:
                due = [
                    tree for tree in trees.trees_of(count + 1)
                    if all((trees.order(branch), branch) >= last for branch in tree)
                ]
                self.assertEqual(trees.forests(count, count, last), due)

    def test_forests_of_no_knots_are_a_lone_root(self):
        self.assertEqual(trees.forests(0, 0, None), [LEAF])
        self.assertEqual(trees.forests(0, 5, (3, FORK)), [LEAF])

    def test_forests_past_eight_knots(self):
        self.assertEqual(trees.forests(12, 1, None), [trees.bushy(13)])
        with self.assertRaises(BadSize):
            trees.forests(9, 9, None)


class TextTests(unittest.TestCase):
    def test_told(self):
        self.assertEqual(trees.told_tree(LEAF), "()")
        self.assertEqual(trees.told_tree(TWO), "(())")
        self.assertEqual(trees.told_tree((LEAF, TWO)), "(()(()))")

    def test_texts_are_read_again(self):
        for tree in trees.trees_up_to(7):
            self.assertEqual(trees.read_tree(trees.told_tree(tree)), tree)

    def test_read_puts_branches_in_order(self):
        self.assertEqual(trees.read_tree("((())())"), (LEAF, TWO))
        self.assertEqual(trees.read_tree("(((())())())"), (LEAF, (LEAF, TWO)))
        self.assertTrue(are_tuples(trees.read_tree("((())())")))

    def test_something_behind_is_refused(self):
        for text in ("()()", "() ", "())", "()(", "()x", "(())()", "()\n"):
            with self.subTest(text), self.assertRaises(BadTree):
                trees.read_tree(text)

    def test_without_an_end_is_refused(self):
        for text in ("(", "((", "(()", "((()", "(()(", "(x", "(x)", "( )", "(() )", "(()x)"):
            with self.subTest(text), self.assertRaises(BadTree):
                trees.read_tree(text)

    def test_without_a_bracket_is_refused(self):
        for text in ("", ")", " ()", "x", "x()", "x)", "x())", " )", ")(", "))", "[]"):
            with self.subTest(text), self.assertRaises(BadTree):
                trees.read_tree(text)

    def test_read_from(self):
        self.assertEqual(trees.read_from("()", 0), (LEAF, 2))
        self.assertEqual(trees.read_from("()()", 0), (LEAF, 2))
        self.assertEqual(trees.read_from("x(())y", 1), (TWO, 5))
        self.assertEqual(trees.read_from("((())())", 1), (TWO, 5))
        self.assertEqual(trees.read_from("((())())", 0), ((LEAF, TWO), 8))

    def test_read_from_refuses(self):
        for text, place in (("()", 1), ("()", 2), ("()", 3), ("", 0), ("x()", 0), ("()(", 2), ("()(x)", 2)):
            with self.subTest(text), self.assertRaises(BadTree):
                trees.read_from(text, place)


class CutTests(unittest.TestCase):
    def test_a_lone_knot_is_left(self):
        self.assertEqual(trees.cuts(LEAF), [(LEAF, ())])

    def test_cut_off_first_then_each_way_to_cut(self):
        self.assertEqual(trees.cuts(TWO), [(LEAF, (LEAF,)), (TWO, ())])
        self.assertEqual(trees.cuts(THREE), [(LEAF, (TWO,)), (TWO, (LEAF,)), (THREE, ())])

    def test_each_branch_in_order(self):
        self.assertEqual(
            trees.cuts((LEAF, TWO)),
            [
                (LEAF, (LEAF, TWO)),
                (TWO, (LEAF, LEAF)),
                (THREE, (LEAF,)),
                (TWO, (TWO,)),
                (FORK, (LEAF,)),
                ((LEAF, TWO), ()),
            ],
        )

    def test_alike_ways_are_told_each(self):
        self.assertEqual(
            trees.cuts(FORK), [(LEAF, (LEAF, LEAF)), (TWO, (LEAF,)), (TWO, (LEAF,)), (FORK, ())]
        )

    def test_what_is_left_is_in_order(self):
        # The first branch stays, the second loses both its knots and then comes ahead of it.
        self.assertIn(((LEAF, TWO), (LEAF, LEAF)), trees.cuts((TWO, FORK)))

    def test_what_is_cut_off_stands_as_it_was_cut(self):
        self.assertIn(((TWO,), (TWO, LEAF)), trees.cuts((TWO, FORK)))

    def test_all_ways_of_all_trees(self):
        for tree in trees.trees_up_to(7):
            found = trees.cuts(tree)
            self.assertIs(type(found), list)
            self.assertEqual(len(found), math.prod(1 + len(trees.cuts(branch)) for branch in tree))
            self.assertEqual(found[0], (LEAF, tree))
            self.assertEqual(found[-1], (tree, ()))
            for left, off in found:
                self.assertTrue(are_tuples(left) and is_in_order(left) and are_tuples(off))
                self.assertEqual(trees.order(left) + sum(map(trees.order, off)), trees.order(tree))


if __name__ == "__main__":
    unittest.main()
