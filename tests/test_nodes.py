"""Tests of stepwright.nodes: point 15, and point 1 as far as it concerns nodes."""

import copy
import unittest
from fractions import Fraction

from stepwright import nodes
from stepwright.areas import by_places
from stepwright.curves import worth
from stepwright.errors import BadPart, BadSize, BadTable, StepFault
from stepwright.flows import step, step_rows
from stepwright.tables import Table, stage_order
from stepwright.trees import LEAF, bushy, order, tall, trees_up_to
from tests.known import (
    END, EULER, FOUR, HUNTING, LOBATTO, MIDDLE, MOTIONS, ODD, RADAU, RULES, SIX, STEPWISE, THREE, TRAPEZE, TURNING,
    TWO_END, are_tuples, as_part, due_part, field_of, fractions_of, parts_of, table_of,
)

PLACES = ("0", "1", "1/2", "0 1", "1/3 1", "1 0", "0 1/2 1", "1/4 3/4", "0 1/3 2/3 1", "-1 1/2 2", "1/5 2/5 3/5 4/5")
# For any part of the step of the rule of four stages, known to be right up to three knots.
FOUR_PARTS = (
    parts_of("0 1 -3/2 2/3"), parts_of("0 0 1 -2/3"), parts_of("0 0 1 -2/3"), parts_of("0 0 -1/2 2/3"),
)
ATS = parts_of("0 1 1/2 1/3 -1/4 5/3")


def weight_in_parts(table, weights, tree, at):
    """Tell a tree's weight at a part of the step by the stages' inner parts, of fractions."""
    def inner(one):
        rows = [inner(branch) for branch in one]
        found = []
        for shares in table.shares:
            product = Fraction(1)
            for row in rows:
                product *= sum(Fraction(*share) * its for share, its in zip(shares, row))
            found.append(product)
        return found

    worths = [sum(Fraction(*part) * at ** k for k, part in enumerate(one)) for one in weights]
    return sum(mine * its for mine, its in zip(worths, inner(tree)))


class PlacesTests(unittest.TestCase):
    def test_check_places(self):
        for text in PLACES:
            self.assertEqual(nodes.check_places(list(parts_of(text))), parts_of(text))
            self.assertTrue(are_tuples(nodes.check_places(list(parts_of(text)))))

    def test_a_place_twice_and_no_places(self):
        for text in ("", "0 0", "1/2 0 1/2", "1 2 3 1"):
            for places in (parts_of(text), list(parts_of(text))):
                for deed in (
                    nodes.check_places, nodes.bases, nodes.by_nodes, nodes.part_weights, nodes.same_weights,
                ):
                    with self.assertRaises(BadTable):
                        deed(places)

    def test_each_curve_is_one_at_its_place_and_nought_at_the_others(self):
        for text in PLACES:
            places = parts_of(text)
            found = nodes.bases(list(places))
            self.assertTrue(are_tuples(found))
            self.assertEqual(len(found), len(places))
            for a, one in enumerate(found):
                self.assertLessEqual(len(one), len(places))
                self.assertEqual([worth(one, place) for place in places], [(int(a == b), 1) for b in range(len(places))])

    def test_curves_by_hand(self):
        self.assertEqual(nodes.bases(parts_of("7")), (parts_of("1"),))
        self.assertEqual(nodes.bases(parts_of("0 1")), (parts_of("1 -1"), parts_of("0 1")))
        self.assertEqual(nodes.bases(parts_of("0 1/2 1")), (parts_of("1 -3 2"), parts_of("0 4 -4"), parts_of("0 -1 2")))

    def test_even_places(self):
        for count, due in ((2, "0 1"), (3, "0 1/2 1"), (4, "0 1/3 2/3 1"), (7, "0 1/6 1/3 1/2 2/3 5/6 1")):
            self.assertEqual(nodes.even_places(count), parts_of(due))
            self.assertTrue(are_tuples(nodes.even_places(count)))
        for count in (1, 0, -1):
            with self.assertRaises(BadSize):
                nodes.even_places(count)

    def test_what_is_handed_in_stays(self):
        places = [(0, 1), (1, 2), (1, 1)]
        before = (list(places), FOUR.shown())
        nodes.by_nodes(places)
        nodes.part_weights(places)
        nodes.at_part(FOUR, FOUR_PARTS, (1, 2))
        nodes.grown_table(FOUR)
        with self.assertRaises(BadTable):
            nodes.joined_pair(FOUR, parts_of("1"))
        self.assertEqual((places, FOUR.shown()), before)


class TableTests(unittest.TestCase):
    def test_known_tables(self):
        for text, table in (
            ("0", EULER), ("1", END), ("1/2", MIDDLE), ("0 1", TRAPEZE), ("1/3 1", RADAU), ("0 1/2 1", LOBATTO),
            ("1 0", table_of("1/2 1/2; 0 0", "1/2 1/2")), ("0 2/3", table_of("0 0; 1/3 1/3", "1/4 3/4")),
        ):
            found = nodes.by_nodes(list(parts_of(text)))
            self.assertIsInstance(found, Table)
            self.assertEqual(found.shown(), table.shown())

    def test_places_are_the_tables_own(self):
        for text in PLACES:
            table = nodes.by_nodes(parts_of(text))
            self.assertEqual(table.places, parts_of(text))
            self.assertGreaterEqual(stage_order(table, 8), len(table.places))
            self.assertGreaterEqual(table.order(4), min(4, len(table.places)))

    def test_weights_are_those_of_the_areas_rule(self):
        for text in PLACES:
            places = parts_of(text)
            self.assertIs(nodes.same_weights(list(places)), True)
            self.assertEqual(nodes.by_nodes(places).weights, by_places(places).weights)

    def test_a_step_of_a_field_of_time_alone_is_an_area(self):
        # The second letter moves by a curve of the first, which is the time.
        field = field_of("1*0.0", "2*0.0; -1*1.0; 1/3*3.0; 1*4.0")
        for text in PLACES:
            rule, table = by_places(parts_of(text)), nodes.by_nodes(parts_of(text))
            rows = step_rows(table, field, parts_of("0 0"), 5)
            length = Fraction(3, 2)
            told = sum(Fraction(*part) * length ** power for power, part in enumerate(rows[1]))
            due = rule.area(lambda at: field.at((at, (0, 1)))[1], (0, 1), as_part(length))
            self.assertEqual(as_part(told), due)


class PartTests(unittest.TestCase):
    def test_weights_by_hand(self):
        self.assertEqual(nodes.part_weights(parts_of("1/2")), (parts_of("0 1"),))
        self.assertEqual(nodes.part_weights(list(parts_of("0 1"))), (parts_of("0 1 -1/2"), parts_of("0 0 1/2")))
        self.assertTrue(are_tuples(nodes.part_weights(list(parts_of("0 1")))))

    def test_weights_at_nought_at_one_and_at_places(self):
        for text in PLACES:
            table, weights = nodes.by_nodes(parts_of(text)), nodes.part_weights(parts_of(text))
            self.assertEqual(tuple(worth(one, (0, 1)) for one in weights), ((0, 1),) * len(weights))
            self.assertEqual(tuple(worth(one, (1, 1)) for one in weights), table.weights)
            for place, shares in zip(table.places, table.shares):
                self.assertEqual(tuple(worth(one, place) for one in weights), shares)
            for at in ATS:
                self.assertEqual(nodes.sum_of_weights(list(weights), at), at)

    def test_sum_of_weights(self):
        self.assertEqual(nodes.sum_of_weights([parts_of("1 2"), parts_of("0 0 3")], (1, 2)), (11, 4))
        self.assertEqual(nodes.sum_of_weights([], (1, 2)), (0, 1))

    def test_lacks_against_another_way(self):
        for table, weights in (
            (FOUR, FOUR_PARTS), (LOBATTO, nodes.part_weights(parts_of("0 1/2 1"))),
            (ODD, nodes.straight_weights(ODD)), (RADAU, (parts_of("1 2 3"), parts_of("-1/2 0 0 1"))),
        ):
            for tree in trees_up_to(5):
                for at in ATS:
                    mine = weight_in_parts(table, weights, tree, Fraction(*at))
                    due = mine - Fraction(*at) ** order(tree) * due_part(tree)
                    found = nodes.part_lack(table, [list(one) for one in weights], tree, at)
                    self.assertEqual(found, as_part(due))

    def test_lacks_at_the_whole_step_are_the_tables(self):
        for table, weights in ((FOUR, FOUR_PARTS), (STEPWISE, nodes.straight_weights(STEPWISE))):
            for tree in trees_up_to(6):
                self.assertEqual(nodes.part_lack(table, weights, tree, (1, 1)), table.lack(tree))
        self.assertEqual(nodes.part_lack(FOUR, FOUR_PARTS, tall(4), (1, 2)), (-5, 384))

    def test_lacks_with_another_count(self):
        with self.assertRaises(BadPart):
            nodes.part_lack(FOUR, FOUR_PARTS[:3], LEAF, (1, 2))

    def test_known_orders(self):
        for table, weights, due in (
            (FOUR, FOUR_PARTS, 3), (FOUR, nodes.straight_weights(FOUR), 1), (EULER, nodes.straight_weights(EULER), 1),
            (ODD, nodes.straight_weights(ODD), 0), (TWO_END, (parts_of("0 1 -1/2"), parts_of("0 0 1/2")), 2),
            (TWO_END, (parts_of("0 1 -1/2"), parts_of("0 0 1/3")), 0), (TWO_END, ((), ()), 0),
            (TWO_END, (parts_of("1 1 -1/2"), parts_of("0 0 1/2")), 0),
        ):
            self.assertEqual(nodes.part_order(table, [list(one) for one in weights], 6), due)
            for most in range(0, 5):
                self.assertEqual(nodes.part_order(table, weights, most), min(most, due))

    def test_orders_of_rules_made_of_places(self):
        for text in PLACES[:-1]:
            places = parts_of(text)
            found = nodes.part_order(nodes.by_nodes(places), nodes.part_weights(places), 6)
            self.assertEqual(found, len(places))

    def test_orders_are_lacks_at_many_parts(self):
        for table, weights in (
            (FOUR, FOUR_PARTS), (RADAU, nodes.part_weights(parts_of("1/3 1"))), (TRAPEZE, nodes.straight_weights(TRAPEZE)),
            (ODD, nodes.straight_weights(ODD)), (RADAU, (parts_of("1 2 3"), parts_of("-1/2 0 0 1"))),
        ):
            # A curve of a power as high as five is nought everywhere where it is at seven places.
            ats = [as_part(Fraction(at, 3)) for at in range(-3, 4)]
            lacking = [
                order(tree) for tree in trees_up_to(5)
                if any(nodes.part_lack(table, weights, tree, at) != (0, 1) for at in ats)
            ]
            self.assertEqual(nodes.part_order(table, weights, 5), min(lacking, default=6) - 1)

    def test_orders_refused(self):
        for most in (-1, 9, 20):
            with self.assertRaises(BadSize):
                nodes.part_order(FOUR, FOUR_PARTS, most)
            # The count comes first.
            with self.assertRaises(BadSize):
                nodes.part_order(FOUR, (), most)
        for weights in ((), FOUR_PARTS[:3], FOUR_PARTS + FOUR_PARTS[:1]):
            for most in (0, 3, 8):
                with self.assertRaises(BadTable):
                    nodes.part_order(FOUR, weights, most)

    def test_straight_weights(self):
        self.assertEqual(nodes.straight_weights(THREE), (parts_of("0 1/6"), parts_of("0 2/3"), parts_of("0 1/6")))
        self.assertEqual(nodes.straight_weights(table_of("0 0; 1/2 0", "0 1")), ((), parts_of("0 1")))
        self.assertTrue(are_tuples(nodes.straight_weights(THREE)))

    def test_at_part(self):
        for at in ATS:
            found = nodes.at_part(FOUR, [list(one) for one in FOUR_PARTS], at)
            self.assertEqual(found.shares, FOUR.shares)
            self.assertEqual(found.weights, tuple(worth(one, at) for one in FOUR_PARTS))
        self.assertEqual(nodes.at_part(FOUR, FOUR_PARTS, (1, 1)).shown(), FOUR.shown())
        self.assertEqual(step(nodes.at_part(FOUR, FOUR_PARTS, (0, 1)), TURNING, parts_of("1 2"), (1, 3)), parts_of("1 2"))

    def test_at_part_is_near_the_motion(self):
        # Up to the order in parts it is the motion's row, for that part of the length.
        for at in ATS:
            rows = step_rows(nodes.at_part(FOUR, FOUR_PARTS, at), HUNTING, parts_of("1/2 3/4"), 3)
            whole = step_rows(FOUR, HUNTING, parts_of("1/2 3/4"), 3)
            for row, due in zip(rows, whole):
                scaled = tuple(as_part(one * Fraction(*at) ** power) for power, one in enumerate(fractions_of(due)))
                self.assertEqual(row, scaled)

    def test_at_part_with_another_count(self):
        for weights in ((), FOUR_PARTS[:3], FOUR_PARTS + FOUR_PARTS[:1]):
            with self.assertRaises(BadTable):
                nodes.at_part(FOUR, weights, (1, 2))


class PairTests(unittest.TestCase):
    def test_joined_pair(self):
        found = nodes.joined_pair(TWO_END, [(2, 2), (0, 5)])
        self.assertEqual(found.shown(), (TWO_END.shares, parts_of("1 0")))
        self.assertEqual(found.order(3), 1)
        for weights in ("", "1", "1 0 0"):
            with self.assertRaises(BadTable):
                nodes.joined_pair(TWO_END, parts_of(weights))
        with self.assertRaises(BadPart):
            nodes.joined_pair(TWO_END, [(1, 0), (1, 1)])
        # The count comes ahead of the parts.
        with self.assertRaises(BadTable):
            nodes.joined_pair(TWO_END, [(1, 0)])

    def test_lesser_weights(self):
        found = nodes.lesser_weights(THREE, list(parts_of("1 0 1/2")))
        self.assertEqual(found, parts_of("-5/6 2/3 -1/3"))
        self.assertTrue(are_tuples(found))
        for weights in ("", "1 0", "1 0 0 0"):
            with self.assertRaises(BadTable):
                nodes.lesser_weights(THREE, parts_of(weights))

    def test_lesser_weights_tell_the_difference_of_steps(self):
        others = parts_of("1 0 0 0")
        apart = nodes.joined_pair(FOUR, nodes.lesser_weights(FOUR, others))
        for field, point in MOTIONS:
            mine = step(FOUR, field, point, (1, 3))
            its = step(nodes.joined_pair(FOUR, others), field, point, (1, 3))
            told = step(apart, field, point, (1, 3))
            for a, b, c, start in zip(mine, its, told, point):
                self.assertEqual(Fraction(*a) - Fraction(*b), Fraction(*c) - Fraction(*start))

    def test_grown_table(self):
        found = nodes.grown_table(TWO_END)
        self.assertEqual(found.shown(), table_of("0 0 0; 1 0 0; 1/2 1/2 0", "1/2 1/2 0").shown())
        for table in RULES:
            if any(share != (0, 1) for share in table.shares[0]):
                continue
            found = nodes.grown_table(table)
            self.assertEqual(found.stages(), table.stages() + 1)
            self.assertEqual(found.shares[-1], table.weights + ((0, 1),))
            self.assertEqual(found.weights[-1], (0, 1))
            self.assertEqual(found.is_plain(), table.is_plain())
            for tree in trees_up_to(5):
                self.assertEqual(found.weight(tree), table.weight(tree))

    def test_a_grown_tables_last_slope_is_the_next_steps_first(self):
        last = nodes.joined_pair(nodes.grown_table(FOUR), parts_of("0 0 0 0 1"))
        for field, point in MOTIONS:
            there = step(FOUR, field, point, (1, 3))
            told = step(last, field, point, (1, 3))
            due = [Fraction(*one) + Fraction(1, 3) * Fraction(*slope) for one, slope in zip(point, field.at(there))]
            self.assertEqual(told, tuple(as_part(one) for one in due))

    def test_a_first_stage_with_shares(self):
        for table in (END, MIDDLE, RADAU, STEPWISE, ODD, table_of("1 -1; 0 0", "1 0"), table_of("0 1; 1 0", "1 0")):
            with self.assertRaises(BadTable):
                nodes.grown_table(table)
        for table in (TRAPEZE, LOBATTO, SIX):
            self.assertEqual(nodes.grown_table(table).stages(), table.stages() + 1)

    def test_a_bushy_tree_of_places(self):
        # The places' powers alone tell the weight of a root with knots on it.
        table = nodes.by_nodes(parts_of("0 1/3 2/3 1"))
        rule = by_places(parts_of("0 1/3 2/3 1"))
        for count in range(1, 8):
            self.assertEqual(table.lack(bushy(count)), rule.lack(count - 1))

    def test_they_are_step_faults(self):
        before = copy.deepcopy(FOUR.shown())
        with self.assertRaises(StepFault):
            nodes.at_part(FOUR, (), (1, 2))
        self.assertEqual(FOUR.shown(), before)


if __name__ == "__main__":
    unittest.main()
