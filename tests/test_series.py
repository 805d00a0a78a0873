"""Tests of stepwright.series: point 5, and points 1 and 18 as far as they concern series."""

import copy
import itertools
import math
import unittest
from fractions import Fraction

from stepwright import series, tables
from stepwright.errors import BadPart, BadSize, NoSuch, StepFault
from stepwright.series import Series, exact, nothing, of_table, same_to
from stepwright.trees import LEAF, bushy, order, rising_ways, symmetry, tall, trees_of, trees_up_to
from tests.known import (
    END, EULER, FOUR, MIDDLE, ODD, ORDERS, RADAU, RULES, SIX, STEPWISE, THREE, TRAPEZE, TWO_END, are_tuples, as_part,
    due_part, rows_of_knots, table_of, weight_by_stages,
)

TWO = (LEAF,)
FORK = (LEAF, LEAF)
LINE = (TWO,)
LENGTHS = ((1, 2), (1, 3), (-2, 5), (0, 1), (1, 1), (7, 2))


def made(count, numbers):
    """Make a series of numbers for the trees in order."""
    return Series(count, {tree: as_part(one) for tree, one in zip(trees_up_to(count), numbers)})


def odd_one(count, seed):
    """Make a series of parts that follow no rule."""
    numbers = []
    for _ in trees_up_to(count):
        seed = (seed * 137 + 71) % 1009
        numbers.append(Fraction(seed - 500, seed % 7 + 1))
    return made(count, numbers)


def behind_by_knots(one, other, tree):
    """Tell a tree's part of one behind another, by all sets of knots that stay at the root."""
    parents = rows_of_knots(tree)[0]
    found = Fraction(*one.rows[tree])
    for others in itertools.product((True, False), repeat=len(parents) - 1):
        stays = (True,) + others
        if any(stays[at] and not stays[parents[at]] for at in range(1, len(parents))):
            continue

        def grown_at(knot, kind):
            return tuple(sorted(
                grown_at(at, kind) for at in range(1, len(parents)) if parents[at] == knot and stays[at] == kind
            ))

        term = Fraction(*other.rows[grown_at(0, True)])
        for at in range(1, len(parents)):
            if not stays[at] and stays[parents[at]]:
                term *= Fraction(*one.rows[grown_at(at, False)])
        found += term
    return as_part(found)


class MakingTests(unittest.TestCase):
    def test_fields(self):
        one = made(3, (1, Fraction(1, 2), 3, -4))
        self.assertEqual(one.count, 3)
        self.assertIs(type(one.rows), dict)
        self.assertEqual(one.rows, {LEAF: (1, 1), TWO: (1, 2), FORK: (3, 1), LINE: (-4, 1)})
        self.assertTrue(all(type(part) is tuple for part in one.rows.values()))

    def test_parts_are_made_small(self):
        one = Series(2, {TWO: (-3, -6), LEAF: (0, 9)})
        self.assertEqual(one.rows, {LEAF: (0, 1), TWO: (1, 2)})

    def test_shown_fewer_knots_first(self):
        one = Series(3, {LINE: (1, 1), FORK: (2, 1), TWO: (3, 1), LEAF: (4, 1)})
        self.assertEqual(one.shown(), ((LEAF, (4, 1)), (TWO, (3, 1)), (FORK, (2, 1)), (LINE, (1, 1))))
        self.assertTrue(are_tuples(one.shown()))
        for count in range(0, 9):
            self.assertEqual(tuple(tree for tree, part in exact(count).shown()), trees_up_to(count))

    def test_a_count_of_nought(self):
        one = Series(0, {})
        self.assertEqual((one.count, one.rows, one.shown()), (0, {}, ()))
        self.assertEqual(one.is_exact_to(), 0)
        for found in (nothing(0), exact(0), of_table(FOUR, 0), one.undone(), one.behind(one), one.scaled((1, 2))):
            self.assertEqual((found.count, found.rows), (0, {}))
        self.assertEqual(same_to(one, exact(0)), 0)
        self.assertEqual(series.mean_of(one, one).rows, {})
        self.assertEqual(series.turned_series(one).rows, {})

    def test_counts_below_nought_and_past_eight_are_refused(self):
        for count in (-1, -4, 9, 20):
            with self.assertRaises(BadSize):
                Series(count, {})
            with self.assertRaises(BadSize):
                nothing(count)
            with self.assertRaises(BadSize):
                exact(count)
            with self.assertRaises(BadSize):
                of_table(FOUR, count)

    def test_a_part_by_nought_is_refused(self):
        with self.assertRaises(BadPart):
            Series(1, {LEAF: (1, 0)})

    def test_what_is_handed_in_is_neither_kept_nor_changed(self):
        values = {LEAF: (2, 4), TWO: (1, 1)}
        one = Series(2, values)
        self.assertEqual(values, {LEAF: (2, 4), TWO: (1, 1)})
        values[LEAF] = (9, 1)
        self.assertEqual(one.at(LEAF), (1, 2))

    def test_the_errors_are_step_faults(self):
        with self.assertRaises(StepFault):
            exact(2).at(FORK)


class AtTests(unittest.TestCase):
    def test_at(self):
        one = odd_one(5, 3)
        for tree in trees_up_to(5):
            self.assertEqual(one.at(tree), one.rows[tree])
            self.assertIs(type(one.at(tree)), tuple)

    def test_a_tree_past_the_count_is_not_there(self):
        for count in range(0, 8):
            for tree in (bushy(count + 1), tall(count + 1)) + trees_of(count + 1)[:5]:
                with self.assertRaises(NoSuch):
                    exact(count).at(tree)
        for tree in (tall(9), bushy(9), tall(40), (tall(20),) * 2):
            with self.assertRaises(NoSuch):
                exact(8).at(tree)

    def test_branches_in_the_wrong_order_are_not_there(self):
        with self.assertRaises(NoSuch):
            exact(5).at((TWO, LEAF))


class KnownTests(unittest.TestCase):
    def test_nothing(self):
        self.assertEqual(nothing(3).rows, {LEAF: (0, 1), TWO: (0, 1), FORK: (0, 1), LINE: (0, 1)})

    def test_exact(self):
        self.assertEqual(exact(3).rows, {LEAF: (1, 1), TWO: (1, 2), FORK: (1, 3), LINE: (1, 6)})
        for tree in trees_up_to(8):
            self.assertEqual(exact(8).at(tree), as_part(due_part(tree)))

    def test_of_table(self):
        for table in RULES:
            for tree, part in of_table(table, 5).shown():
                self.assertEqual(part, as_part(weight_by_stages(table, tree)))

    def test_is_exact_to_is_the_rules_order(self):
        for name, table, due in ORDERS:
            for count in range(0, 7):
                self.assertEqual(of_table(table, count).is_exact_to(), min(due, count))
        for count in range(0, 9):
            self.assertEqual(exact(count).is_exact_to(), count)
        self.assertEqual(nothing(4).is_exact_to(), 0)

    def test_same_to(self):
        for one, other, due in (
            (exact(5), of_table(FOUR, 5), 4),
            (of_table(FOUR, 5), exact(5), 4),
            (of_table(FOUR, 4), exact(4), 4),
            (of_table(TWO_END, 6), of_table(MIDDLE, 6), 2),
            (of_table(THREE, 6), of_table(FOUR, 6), 3),
            (nothing(4), of_table(ODD, 4), 0),
            (nothing(4), nothing(4), 4),
            (of_table(EULER, 6), of_table(EULER, 6), 6),
        ):
            self.assertEqual(same_to(one, other), due)

    def test_same_to_sees_each_tree(self):
        for tree in trees_up_to(5):
            one = exact(5)
            one.rows[tree] = (7, 2)
            self.assertEqual(same_to(one, exact(5)), order(tree) - 1)
            self.assertEqual(one.is_exact_to(), order(tree) - 1)


class BehindTests(unittest.TestCase):
    def test_by_hand(self):
        one, other = made(3, (2, 3, 5, 7)), made(3, (11, 13, 17, 19))
        found = one.behind(other)
        self.assertIsInstance(found, Series)
        self.assertEqual(found.at(LEAF), (2 + 11, 1))
        self.assertEqual(found.at(TWO), (3 + 11 * 2 + 13, 1))
        self.assertEqual(found.at(FORK), (5 + 11 * 2 * 2 + 2 * 13 * 2 + 17, 1))
        self.assertEqual(found.at(LINE), (7 + 11 * 3 + 13 * 2 + 19, 1))

    def test_by_all_sets_of_knots_that_stay(self):
        one, other = odd_one(6, 5), odd_one(6, 8)
        found = one.behind(other)
        for tree in trees_up_to(6):
            self.assertEqual(found.at(tree), behind_by_knots(one, other, tree))

    def test_the_table_of_two_rules_behind_each_other(self):
        for first, second in itertools.product((EULER, ODD, TWO_END, RADAU), (END, FOUR, STEPWISE)):
            for at in ((1, 2), (2, 7), (-1, 3)):
                rest = as_part(1 - Fraction(*at))
                due = of_table(tables.behind(first, second, at), 5)
                found = of_table(first, 5).scaled(at).behind(of_table(second, 5).scaled(rest))
                self.assertEqual(found.rows, due.rows)

    def test_greater_counts(self):
        due = of_table(tables.behind(THREE, TRAPEZE, (1, 4)), 8)
        found = of_table(THREE, 8).scaled((1, 4)).behind(of_table(TRAPEZE, 8).scaled((3, 4)))
        self.assertEqual(same_to(found, due), 8)

    def test_nothing_behind_and_ahead(self):
        for one in (odd_one(6, 2), exact(6), of_table(FOUR, 6)):
            self.assertEqual(one.behind(nothing(6)).rows, one.rows)
            self.assertEqual(nothing(6).behind(one).rows, one.rows)

    def test_three_behind_each_other(self):
        one, two, three = odd_one(6, 1), odd_one(6, 2), odd_one(6, 3)
        self.assertEqual(one.behind(two).behind(three).rows, one.behind(two.behind(three)).rows)

    def test_which_comes_first_is_not_the_same(self):
        one, two = of_table(EULER, 3), of_table(END, 3)
        self.assertLess(same_to(one.behind(two), two.behind(one)), 3)

    def test_the_exact_one_stays_exact_behind_itself(self):
        for at in LENGTHS:
            rest = as_part(1 - Fraction(*at))
            found = exact(7).scaled(at).behind(exact(7).scaled(rest))
            self.assertEqual(found.rows, exact(7).rows)
            self.assertEqual(found.is_exact_to(), 7)
        self.assertEqual(exact(6).behind(exact(6)).rows, exact(6).scaled((2, 1)).rows)

    def test_other_counts_are_refused(self):
        for one, other in ((2, 3), (3, 2), (0, 1), (8, 7)):
            with self.assertRaises(BadSize):
                exact(one).behind(exact(other))
            with self.assertRaises(BadSize):
                same_to(exact(one), exact(other))
            with self.assertRaises(BadSize):
                series.mean_of(exact(one), exact(other))

    def test_series_stay_as_they_were(self):
        one, other, less = odd_one(4, 2), odd_one(4, 9), odd_one(3, 1)
        before = copy.deepcopy((one.rows, other.rows, one.count))
        one.behind(other)
        one.undone()
        one.scaled((1, 2))
        series.mean_of(one, other)
        series.turned_series(one)
        with self.assertRaises(BadSize):
            one.behind(less)
        with self.assertRaises(NoSuch):
            one.at(tall(5))
        self.assertEqual((one.rows, other.rows, one.count), before)


class UndoneTests(unittest.TestCase):
    def test_by_hand(self):
        found = made(3, (2, 3, 5, 7)).undone()
        self.assertIsInstance(found, Series)
        # At two knots: 3 + x(one knot) * 2 + x = 0, where x(one knot) is -2.
        self.assertEqual(found.at(LEAF), (-2, 1))
        self.assertEqual(found.at(TWO), (1, 1))
        self.assertEqual(found.at(FORK), (-5 + 2 * 4 - 2 * 2 * 1, 1))
        self.assertEqual(found.at(LINE), (-7 + 2 * 3 - 1 * 2, 1))

    def test_behind_each_other_they_leave_all_as_it_was(self):
        for one in (odd_one(7, 4), exact(7), of_table(FOUR, 7), of_table(ODD, 7), nothing(7)):
            back = one.undone()
            self.assertEqual(one.behind(back).rows, nothing(7).rows)
            self.assertEqual(back.behind(one).rows, nothing(7).rows)
            self.assertEqual(back.undone().rows, one.rows)

    def test_two_undone_in_the_other_order(self):
        one, other = odd_one(6, 4), odd_one(6, 6)
        self.assertEqual(one.behind(other).undone().rows, other.undone().behind(one.undone()).rows)

    def test_the_motion_undone_goes_back(self):
        self.assertEqual(exact(8).undone().rows, exact(8).scaled((-1, 1)).rows)


class ScaledTests(unittest.TestCase):
    def test_scaled(self):
        one = odd_one(6, 7)
        for by in LENGTHS:
            found = one.scaled(by)
            self.assertIsInstance(found, Series)
            for tree in trees_up_to(6):
                self.assertEqual(found.at(tree), as_part(Fraction(*one.at(tree)) * Fraction(*by) ** order(tree)))

    def test_edges(self):
        one = odd_one(5, 7)
        self.assertEqual(one.scaled((1, 1)).rows, one.rows)
        self.assertEqual(one.scaled((0, 1)).rows, nothing(5).rows)
        self.assertEqual(one.scaled((2, 3)).scaled((3, 2)).rows, one.rows)
        with self.assertRaises(BadPart):
            one.scaled((1, 0))

    def test_turned(self):
        for one in (odd_one(6, 3), of_table(ODD, 6)):
            found = series.turned_series(one)
            self.assertEqual(found.rows, one.undone().scaled((-1, 1)).rows)
            self.assertEqual(found.rows, one.scaled((-1, 1)).undone().rows)
            self.assertEqual(series.turned_series(found).rows, one.rows)
        self.assertEqual(series.turned_series(exact(7)).rows, exact(7).rows)

    def test_turned_is_the_tables_undone_one(self):
        for table in RULES:
            due = of_table(tables.turned_back(table), 5)
            self.assertEqual(series.turned_series(of_table(table, 5)).rows, due.rows)


class LackTests(unittest.TestCase):
    def test_greatest_lack(self):
        self.assertEqual(series.greatest_lack(of_table(EULER, 3)), (TWO, (-1, 2)))
        self.assertEqual(series.greatest_lack(of_table(END, 3)), (LINE, (5, 6)))
        # The fork lacks a sixth, the line a sixth too, with the other sign.
        self.assertEqual(series.greatest_lack(of_table(TWO_END, 3)), (FORK, (1, 6)))
        self.assertTrue(are_tuples(series.greatest_lack(of_table(FOUR, 5))))

    def test_by_other_means(self):
        for table in RULES:
            one = of_table(table, 6)
            lacks = [(tree, Fraction(*part) - due_part(tree)) for tree, part in one.shown()]
            most = max(abs(lack) for tree, lack in lacks)
            tree, lack = next((tree, lack) for tree, lack in lacks if abs(lack) == most)
            self.assertEqual(series.greatest_lack(one), (tree, as_part(lack)))

    def test_the_first_of_those_alike(self):
        one = exact(4)
        one.rows[FORK] = (1, 3 * 2)
        one.rows[LINE] = (1, 3)
        one.rows[bushy(4)] = (1, 4 * 3)
        self.assertEqual(series.greatest_lack(one), (FORK, (-1, 6)))

    def test_none_lacks(self):
        for one in (exact(0), exact(1), exact(5), of_table(FOUR, 4), of_table(SIX, 5), nothing(0)):
            with self.assertRaises(NoSuch):
                series.greatest_lack(one)

    def test_mean(self):
        one, other = odd_one(5, 3), odd_one(5, 4)
        found = series.mean_of(one, other)
        self.assertIsInstance(found, Series)
        for tree in trees_up_to(5):
            self.assertEqual(found.at(tree), as_part((Fraction(*one.at(tree)) + Fraction(*other.at(tree))) / 2))
        self.assertEqual(series.mean_of(one, one).rows, one.rows)
        both = table_of("0 0; 0 1", "1/2 1/2")
        self.assertEqual(series.mean_of(of_table(EULER, 5), of_table(END, 5)).rows, of_table(both, 5).rows)


class CountingTests(unittest.TestCase):
    def test_the_motions_parts_and_the_rising_ways(self):
        for count in range(1, 9):
            found = sum(Fraction(*exact(8).at(tree)) / symmetry(tree) for tree in trees_of(count))
            ways = sum(rising_ways(tree) for tree in trees_of(count))
            self.assertEqual(found, Fraction(ways, math.factorial(count)))


if __name__ == "__main__":
    unittest.main()
