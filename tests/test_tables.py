"""Tests of stepwright.tables: point 4, and points 1 and 18 as far as they concern tables."""

import copy
import unittest
from fractions import Fraction

from stepwright import tables
from stepwright.errors import BadPaper, BadPart, BadSize, BadTable, BadTree, StepFault
from stepwright.parts import part
from stepwright.series import of_table, same_to, turned_series
from stepwright.tables import Table
from stepwright.trees import LEAF, bushy, density, tall, trees_of, trees_up_to
from tests import known
from tests.known import (
    END, EULER, FOUR, FOUR_EIGHTHS, LOBATTO, MIDDLE, ODD, ORDERS, RADAU, RULES, SIX, STEPWISE, THREE, TRAPEZE,
    TWO_END, TWO_MIDDLE, are_tuples, as_part, due_part, parts_of, table_of, weight_by_stages,
)

BACKWARD = ((LEAF,), LEAF)
PARTS = ((0, 1), (1, 1), (1, 2), (1, 3), (-2, 5), (7, 3))


def weighed(table, trees):
    """Tell another way's weights."""
    return [as_part(weight_by_stages(table, tree)) for tree in trees]


class MakingTests(unittest.TestCase):
    def test_fields(self):
        table = Table([[(0, 1), (0, 1)], [(1, 2), (1, 3)]], [(1, 4), (3, 4)])
        self.assertEqual(table.shares, (((0, 1), (0, 1)), ((1, 2), (1, 3))))
        self.assertEqual(table.weights, ((1, 4), (3, 4)))
        self.assertEqual(table.places, ((0, 1), (5, 6)))
        self.assertEqual(table.shown(), (table.shares, table.weights))
        self.assertEqual(table.stages(), 2)

    def test_lists_and_tuples_of_parts_not_made_small(self):
        rows = [[(0, 5), (2, -4)], [(3, 6), (-4, -2)]]
        due = ((((0, 1), (-1, 2)), ((1, 2), (2, 1))), ((1, 3), (2, 3)))
        for kind in (list, tuple):
            for inner in (list, tuple):
                table = Table(kind([inner(row) for row in rows]), kind([(3, 9), (-4, -6)]))
                self.assertEqual(table.shown(), due)
                self.assertEqual(table.places, ((-1, 2), (5, 2)))
                self.assertTrue(are_tuples(table.shown()) and are_tuples(table.places))

    def test_what_is_handed_in_is_neither_kept_nor_changed(self):
        rows, weights = [[(0, 2), (0, 1)], [(2, 2), (0, 1)]], [(2, 4), (1, 2)]
        before = copy.deepcopy((rows, weights))
        table = Table(rows, weights)
        self.assertEqual((rows, weights), before)
        rows[1][0] = (9, 1)
        weights.append((1, 1))
        self.assertEqual(table.shown(), TWO_END.shown())

    def test_places_are_the_rows_sums(self):
        for table in RULES:
            due = tuple(as_part(sum(known.fractions_of(row))) for row in table.shares)
            self.assertEqual(table.places, due)
            self.assertEqual(table.stages(), len(table.weights))

    def test_wrong_shapes_are_refused(self):
        one = (1, 1)
        wrong = (
            ([], []),
            ((), ()),
            ([[]], []),
            ([[one]], []),
            ([], [one]),
            ([[one, one]], [one]),
            ([[]], [one]),
            ([[one, one], [one]], [one, one]),
            ([[one], [one, one]], [one, one]),
            ([[one]], [one, one]),
            ([[one, one]], [one, one]),
            ([[one], [one]], [one]),
            ([[one, one]] * 3, [one, one]),
        )
        for shares, weights in wrong:
            with self.subTest((shares, weights)), self.assertRaises(BadTable):
                Table(shares, weights)

    def test_a_part_by_nought_is_refused(self):
        for shares, weights in (([[(1, 0)]], [(1, 1)]), ([[(1, 1)]], [(0, 0)])):
            with self.assertRaises(BadPart):
                Table(shares, weights)

    def test_the_errors_are_step_faults(self):
        with self.assertRaises(StepFault):
            Table([], [])

    def test_plain_and_stepwise(self):
        for table, plain, stepwise in (
            (EULER, True, True), (END, False, True), (FOUR, True, True), (SIX, True, True), (TRAPEZE, False, True),
            (STEPWISE, False, True), (RADAU, False, False), (ODD, False, False),
            (table_of("0 0 1; 0 0 0; 0 0 0", "1 0 0"), False, False),
            (table_of("0 0 0; 1 0 0; 1 1 1", "1 0 0"), False, True),
            (table_of("0 0 0; 1 0 1; 1 1 0", "1 0 0"), False, False),
        ):
            self.assertIs(table.is_plain(), plain)
            self.assertIs(table.is_stepwise(), stepwise)


class WeightTests(unittest.TestCase):
    def test_inner_rows(self):
        self.assertEqual(FOUR.inner(LEAF), ((1, 1),) * 4)
        self.assertEqual(FOUR.inner((LEAF,)), ((0, 1), (1, 2), (1, 2), (1, 1)))
        self.assertEqual(FOUR.inner((LEAF, LEAF)), ((0, 1), (1, 4), (1, 4), (1, 1)))
        self.assertEqual(FOUR.inner(((LEAF,),)), ((0, 1), (0, 1), (1, 4), (1, 2)))
        self.assertEqual(FOUR.inner((LEAF, (LEAF,))), ((0, 1), (0, 1), (1, 8), (1, 2)))
        self.assertTrue(are_tuples(FOUR.inner((LEAF, (LEAF,)))))

    def test_weights_of_a_known_rule(self):
        self.assertEqual(
            [FOUR.weight(tree) for tree in trees_up_to(4)],
            [(1, 1), (1, 2), (1, 3), (1, 6), (1, 4), (1, 8), (1, 12), (1, 24)],
        )
        self.assertEqual(FOUR.weight(tall(5)), (0, 1))
        self.assertEqual(FOUR.weight(bushy(5)), (5, 24))

    def test_weights_by_all_ways_to_put_knots_on_stages(self):
        trees = trees_up_to(5)
        for name, table, order in ORDERS:
            with self.subTest(name):
                self.assertEqual([table.weight(tree) for tree in trees], weighed(table, trees))

    def test_weights_of_greater_trees(self):
        trees = trees_of(7) + trees_of(8)
        for table in (EULER, END, TWO_END, RADAU):
            self.assertEqual([table.weight(tree) for tree in trees], weighed(table, trees))

    def test_lacks(self):
        for table in (TWO_MIDDLE, FOUR, ODD, RADAU):
            for tree in trees_up_to(5):
                due = weight_by_stages(table, tree) - due_part(tree)
                self.assertEqual(table.lack(tree), as_part(due))
        self.assertEqual(EULER.lack((LEAF,)), (-1, 2))
        self.assertEqual(FOUR.lack(tall(5)), (-1, 120))

    def test_what_is_no_tree_is_refused(self):
        for tree in (BACKWARD, (BACKWARD,), None, "()", [], (1,), ([],)):
            with self.subTest(tree):
                with self.assertRaises(BadTree):
                    FOUR.weight(tree)
                with self.assertRaises(BadTree):
                    FOUR.lack(tree)

    def test_they_give_tuples(self):
        self.assertIs(type(FOUR.weight(LEAF)), tuple)
        self.assertIs(type(FOUR.lack(LEAF)), tuple)


class OrderTests(unittest.TestCase):
    def test_known_orders(self):
        for name, table, order in ORDERS:
            with self.subTest(name):
                self.assertEqual(table.order(6), order)

    def test_no_more_than_told(self):
        for name, table, order in ORDERS:
            for most in range(0, 6):
                self.assertEqual(table.order(most), min(most, order))
        self.assertEqual(TWO_END.order(8), 2)

    def test_orders_up_to_eight(self):
        for most in range(1, 5):
            table = known.even_midsts(most)
            self.assertEqual(table.order(8), 2 * most)
            self.assertEqual(table.order(2 * most), 2 * most)
            self.assertEqual(tables.check_paper(table, 8, tables.paper_of(table, 8)), 2 * most)

    def test_below_nought_and_past_eight_are_refused(self):
        for most in (-1, -5, 9, 100):
            with self.assertRaises(BadSize):
                FOUR.order(most)

    def test_order_asks_all_trees_not_the_bushy_ones_alone(self):
        # Weights right for all areas up to the third power, but not one stage behind another.
        table = table_of("0 0 0; 1/2 0 0; 1 0 0", "1/6 2/3 1/6")
        self.assertTrue(tables.evenly(table, 4))
        self.assertEqual(table.order(5), 2)


class PaperTests(unittest.TestCase):
    def test_paper(self):
        for table in (EULER, THREE, ODD):
            for count in range(0, 6):
                paper = tables.paper_of(table, count)
                self.assertEqual(paper, tuple((tree, table.weight(tree)) for tree in trees_up_to(count)))
                self.assertTrue(are_tuples(paper))

    def test_paper_below_nought_and_past_eight_is_refused(self):
        for count in (-1, 9):
            with self.assertRaises(BadSize):
                tables.paper_of(EULER, count)
            with self.assertRaises(BadSize):
                tables.check_paper(EULER, count, ())

    def test_a_right_paper_shows_the_order(self):
        for name, table, order in ORDERS:
            for count in range(0, 6):
                paper = tables.paper_of(table, count)
                self.assertEqual(tables.check_paper(table, count, paper), min(order, count))
                self.assertEqual(tables.check_paper(table, count, list(paper)), min(order, count))
        self.assertEqual(tables.check_paper(TWO_END, 8, tables.paper_of(TWO_END, 8)), 2)

    def test_other_trees_are_refused(self):
        paper = tables.paper_of(FOUR, 4)
        for rows in (
            paper[:-1],
            paper[1:],
            paper + ((tall(5), (0, 1)),),
            paper[:2] + (paper[3], paper[2]) + paper[4:],
            paper[:1] + paper,
            (),
            paper[:-2] + ((BACKWARD, paper[-2][1]), paper[-1]),
        ):
            with self.assertRaises(BadPaper):
                tables.check_paper(FOUR, 4, rows)
        for count in (3, 5):
            with self.assertRaises(BadPaper):
                tables.check_paper(FOUR, count, paper)

    def test_another_weight_is_refused(self):
        paper = tables.paper_of(FOUR, 5)
        for at in range(len(paper)):
            for weight in ((7, 11), (paper[at][1][0] * 2, paper[at][1][1] * 2)):
                rows = list(paper)
                rows[at] = (rows[at][0], weight)
                with self.assertRaises(BadPaper):
                    tables.check_paper(FOUR, 5, rows)

    def test_due_weights_are_refused_where_the_rule_lacks(self):
        rows = [(tree, (1, density(tree))) for tree in trees_up_to(3)]
        with self.assertRaises(BadPaper):
            tables.check_paper(TWO_END, 3, rows)
        self.assertEqual(tables.check_paper(THREE, 3, rows), 3)

    def test_papers_are_left_as_they_were(self):
        rows = list(tables.paper_of(FOUR, 4))
        before = copy.deepcopy(rows)
        tables.check_paper(FOUR, 4, rows)
        with self.assertRaises(BadPaper):
            tables.check_paper(THREE, 4, rows)
        self.assertEqual(rows, before)


class PowerTests(unittest.TestCase):
    def test_evenly(self):
        for table, most in (
            (EULER, 1), (END, 1), (MIDDLE, 2), (TWO_END, 2), (RADAU, 3), (THREE, 4), (LOBATTO, 4), (SIX, 6), (ODD, 0),
        ):
            for count in range(0, 8):
                self.assertIs(tables.evenly(table, count), count <= most)

    def test_evenly_is_what_the_bushy_trees_tell(self):
        for table in RULES:
            lacks = [table.lack(bushy(count))[0] for count in range(1, 8)]
            for count in range(0, 8):
                self.assertIs(tables.evenly(table, count), not any(lacks[:count]))

    def test_evenly_below_nought_is_refused(self):
        for count in (-1, -3):
            with self.assertRaises(BadSize):
                tables.evenly(EULER, count)

    def test_stage_order(self):
        for table, due in (
            (EULER, 5), (END, 1), (MIDDLE, 1), (TWO_END, 1), (TRAPEZE, 2), (RADAU, 2), (LOBATTO, 3), (FOUR, 1),
            (ODD, 1),
        ):
            for most in range(0, 6):
                self.assertEqual(tables.stage_order(table, most), min(due, most))

    def test_stage_order_by_other_means(self):
        for table in RULES:
            shares = [known.fractions_of(row) for row in table.shares]
            places = [sum(row) for row in shares]
            due = 0
            while due < 6 and all(
                sum(share * place ** due for share, place in zip(row, places)) == places[at] ** (due + 1) / (due + 1)
                for at, row in enumerate(shares)
            ):
                due += 1
            self.assertEqual(tables.stage_order(table, 6), due)

    def test_stage_order_below_nought_is_refused(self):
        for most in (-1, -3):
            with self.assertRaises(BadSize):
                tables.stage_order(EULER, most)


class SquareTests(unittest.TestCase):
    def test_keeps_squares(self):
        for table, due in (
            (MIDDLE, True),
            (EULER, False),
            (END, False),
            (TRAPEZE, False),
            (FOUR, False),
            (LOBATTO, False),
            (table_of("1/4 0; 1/2 1/4", "1/2 1/2"), True),
            (table_of("1/6 0; 1/3 1/3", "1/3 2/3"), True),
            (table_of("1/6 0; 1/3 1/2", "1/3 2/3"), False),
            (table_of("1/4 1/8; 3/8 1/4", "1/2 1/2"), True),
            (table_of("1/4 1/8; 1/2 1/4", "1/2 1/2"), False),
            (table_of("1/4 0; 1/2 3/4", "1/2 0"), True),
            (table_of("1/4 1; 1/2 3/4", "1/2 0"), False),
            (table_of("1/4 0; 1/2 3/4", "0 0"), True),
        ):
            self.assertIs(tables.keeps_squares(table), due)

    def test_rules_that_keep_squares_go_on_doing_so_behind_each_other(self):
        one = table_of("1/4 1/8; 3/8 1/4", "1/2 1/2")
        for at in PARTS:
            self.assertTrue(tables.keeps_squares(tables.behind(MIDDLE, one, at)))
        self.assertFalse(tables.keeps_squares(tables.behind(MIDDLE, EULER, (1, 2))))


class TurnedBackTests(unittest.TestCase):
    def test_the_weight_less_the_share_in_the_other_order(self):
        table = table_of("1 2; 3 4", "5 7")
        self.assertEqual(
            tables.turned_back(table).shown(),
            ((parts_of("3 2"), parts_of("5 4")), parts_of("7 5")),
        )
        self.assertEqual(tables.turned_back(EULER).shown(), END.shown())
        self.assertEqual(tables.turned_back(END).shown(), EULER.shown())

    def test_undone_twice_is_the_table_itself(self):
        for table in RULES:
            back = tables.turned_back(table)
            self.assertIsInstance(back, Table)
            self.assertEqual(tables.turned_back(back).shown(), table.shown())
            self.assertEqual(back.order(4), table.order(4))

    def test_it_undoes_by_trees(self):
        for table in (EULER, TWO_END, RADAU, STEPWISE, ODD):
            due = turned_series(of_table(table, 6))
            self.assertEqual(same_to(of_table(tables.turned_back(table), 6), due), 6)

    def test_is_same_back(self):
        for table, due in (
            (MIDDLE, True), (TRAPEZE, True), (LOBATTO, True), (EULER, False), (END, False), (RADAU, False),
            (FOUR, False), (FOUR_EIGHTHS, False),
        ):
            self.assertIs(tables.is_same_back(table), due)

    def test_is_same_back_with_stages_in_the_other_order(self):
        table = table_of("1/6 1/3; 1/6 1/3", "1/3 2/3")
        self.assertNotEqual(tables.turned_back(table).shown(), table.shown())
        self.assertIs(tables.is_same_back(table), True)
        self.assertIs(tables.is_same_back(table_of("1/6 1/3; 1/3 1/6", "1/3 2/3")), False)

    def test_a_rule_behind_its_undone_one_is_the_same_back(self):
        for table in RULES:
            back = tables.turned_back(table)
            self.assertTrue(tables.is_same_back(tables.behind(table, back, (1, 2))))
            self.assertTrue(tables.is_same_back(tables.behind(back, table, (1, 2))))


class BehindTests(unittest.TestCase):
    def test_cells(self):
        found = tables.behind(TWO_END, RADAU, (1, 3))
        self.assertEqual(
            found.shown(),
            table_of(
                "0 0 0 0; 1/3 0 0 0; 1/6 1/6 5/18 -1/18; 1/6 1/6 1/2 1/6",
                "1/6 1/6 1/2 1/6",
            ).shown(),
        )

    def test_parts_nought_and_one(self):
        self.assertEqual(
            tables.behind(END, MIDDLE, (0, 1)).shown(),
            table_of("0 0; 0 1/2", "0 1").shown(),
        )
        self.assertEqual(
            tables.behind(END, MIDDLE, (1, 1)).shown(),
            table_of("1 0; 1 0", "1 0").shown(),
        )

    def test_at_parts_nought_and_one_it_is_the_one_of_the_two(self):
        for first, second in ((FOUR, EULER), (EULER, RADAU), (ODD, THREE)):
            for tree in trees_up_to(5):
                self.assertEqual(tables.behind(first, second, (0, 1)).weight(tree), second.weight(tree))
                self.assertEqual(tables.behind(first, second, (1, 1)).weight(tree), first.weight(tree))

    def test_a_part_not_made_small_or_past_the_step(self):
        self.assertEqual(tables.behind(FOUR, ODD, (2, 4)).shown(), tables.behind(FOUR, ODD, (1, 2)).shown())
        table = tables.behind(EULER, EULER, (3, 1))
        self.assertEqual(table.shown(), table_of("0 0; 3 0", "3 -2").shown())

    def test_its_order_is_no_less_than_both(self):
        for first, second, due in ((FOUR, FOUR_EIGHTHS, 4), (FOUR, THREE, 3), (EULER, FOUR, 1), (END, EULER, 1)):
            for at in ((1, 2), (1, 3), (-2, 5)):
                self.assertGreaterEqual(tables.behind(first, second, at).order(4), due)
        self.assertEqual(tables.behind(EULER, END, (1, 2)).order(4), 2)
        self.assertEqual(tables.behind(FOUR, THREE, (1, 2)).order(4), 3)

    def test_three_of_them_behind_each_other(self):
        one = tables.behind(tables.behind(EULER, ODD, (1, 3)), MIDDLE, (1, 2))
        other = tables.behind(EULER, tables.behind(ODD, MIDDLE, (2, 5)), (1, 6))
        self.assertEqual(one.shown(), other.shown())

    def test_tables_stay_as_they_were(self):
        before = (FOUR.shown(), FOUR.places, ODD.shown())
        tables.behind(FOUR, ODD, (1, 2))
        tables.turned_back(FOUR)
        tables.paper_of(FOUR, 3)
        self.assertEqual((FOUR.shown(), FOUR.places, ODD.shown()), before)

    def test_a_part_by_nought_is_refused(self):
        with self.assertRaises(BadPart):
            tables.behind(EULER, END, (1, 0))

    def test_weights_are_fractions_made_small(self):
        for at in PARTS:
            for row in tables.behind(ODD, FOUR, at).shares:
                for one in row:
                    self.assertEqual(one, part(*one))
                    self.assertEqual(one, as_part(Fraction(*one)))


if __name__ == "__main__":
    unittest.main()
