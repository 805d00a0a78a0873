"""Tests of stepwright.flows: point 10, points 1 and 18 as far as they concern flows, and the main promise."""

import copy
import itertools
import math
import unittest
from fractions import Fraction

from stepwright import flows, tables
from stepwright.curves import curve, through
from stepwright.errors import BadField, BadPart, BadSize, StepFault
from stepwright.fields import Field, beside, line_field, poly
from stepwright.flows import by_trees, motion, step, step_rows
from stepwright.series import exact, of_table, turned_series
from stepwright.trees import density
from tests.known import (
    END, EULER, FOUR, GROWING, HUNTING, LOBATTO, MIDDLE, MOTIONS, ODD, ORDERS, RADAU, RULES, SIX, SQUARING, STEEP,
    STEPWISE, STILL, THREE, TRAPEZE, TURNING, TWISTING, TWO_END, TWO_MIDDLE, are_tuples, as_part, even_midsts, field_of,
    fractions_of, parts_of, poly_rows, table_of,
)

PLAIN = tuple(table for table in RULES if table.is_plain())
LENGTHS = ((1, 2), (-1, 3), (0, 1), (2, 1))


def due_of(tree):
    """Tell the motion's part of a tree."""
    return (1, density(tree))


def row_product(one, other):
    """Multiply rows of powers of fractions, as far as the first goes."""
    return [sum((one[a] * other[at - a] for a in range(at + 1)), Fraction(0)) for at in range(len(one))]


def rows_in_field(field, rows):
    """Tell the field's rows of powers with rows of fractions in its letters' places."""
    size = len(rows[0])
    found = []
    for one in field.polys:
        whole = [Fraction(0)] * size
        for key, part in one.items():
            term = [Fraction(*part)] + [Fraction(0)] * (size - 1)
            for power, row in zip(key, rows):
                for _ in range(power):
                    term = row_product(term, row)
            whole = [a + b for a, b in zip(whole, term)]
        found.append(whole)
    return found


def motion_by_turns(field, point, count):
    """Tell the motion's rows by putting rows into the field, and the areas under them for them, over and over."""
    rows = [[Fraction(*one)] + [Fraction(0)] * count for one in point]
    for _ in range(count):
        slopes = rows_in_field(field, rows)
        rows = [
            row[:1] + [slope[power] / (power + 1) for power in range(count)] for row, slope in zip(rows, slopes)
        ]
    return as_rows(rows)


def as_rows(rows):
    return tuple(tuple(as_part(one) for one in row) for row in rows)


class MotionTests(unittest.TestCase):
    def test_a_line_against_its_known_row(self):
        found = motion(GROWING, parts_of("2/3"), 8)
        self.assertEqual(found, (tuple(as_part(Fraction(2, 3) / math.factorial(k)) for k in range(9)),))
        self.assertTrue(are_tuples(found))

    def test_known_rows(self):
        self.assertEqual(motion(SQUARING, parts_of("-1/2"), 6)[0], tuple(
            as_part(Fraction(-1, 2) ** (k + 1)) for k in range(7)
        ))
        self.assertEqual(motion(TURNING, parts_of("1 0"), 6), (
            parts_of("1 0 -1/2 0 1/24 0 -1/720"), parts_of("0 1 0 -1/6 0 1/120 0"),
        ))
        self.assertEqual(motion(STILL, parts_of("1/5 7"), 3), (parts_of("1/5 3/2 0 0"), parts_of("7 0 0 0")))

    def test_matrices_again_and_again(self):
        matrix = [parts_of("1 2"), parts_of("-1/2 3")]
        rows = motion(line_field(matrix), parts_of("1 -1"), 7)
        column = [Fraction(1), Fraction(-1)]
        for power in range(8):
            self.assertEqual([row[power] for row in rows], [as_part(one) for one in column])
            column = [
                sum(Fraction(*cell) * one for cell, one in zip(row, column)) / (power + 1) for row in matrix
            ]

    def test_its_slope_is_the_field_at_it(self):
        for field, point in MOTIONS:
            for count in range(0, 9):
                found = motion(field, point, count)
                self.assertEqual(found, motion_by_turns(field, point, count))
                self.assertEqual([len(row) for row in found], [count + 1] * len(point))
            self.assertEqual(motion(field, list(point), 4), motion(field, point, 4))

    def test_a_count_of_nought_is_the_point(self):
        for field, point in MOTIONS:
            due = tuple((one,) for one in point)
            self.assertEqual(motion(field, point, 0), due)
            self.assertEqual(step_rows(FOUR, field, point, 0), due)
            self.assertEqual(by_trees(due_of, field, point, 0), due)

    def test_motions_beside_each_other_go_on_alone(self):
        for (one, mine), (other, its) in itertools.product(MOTIONS[:5], MOTIONS[:5]):
            both = motion(beside(one, other), mine + its, 4)
            self.assertEqual(both, motion(one, mine, 4) + motion(other, its, 4))

    def test_what_a_field_keeps_stays_the_same_along_the_motion(self):
        kept = poly(poly_rows("1*2.0.0; 2*0.0.2"))
        self.assertTrue(TWISTING.keeps(kept))
        found = flows.poly_of_rows(kept, motion(TWISTING, parts_of("1 -1/2 1/3"), 8), 8)
        self.assertEqual(found[1:], [(0, 1)] * 8)


class RefusedTests(unittest.TestCase):
    def test_counts(self):
        for count in range(0, 9):
            self.assertEqual(flows.check_count(count), count)
        for count in (-1, -8, 9, 50):
            for deed in (
                lambda: flows.check_count(count),
                lambda: motion(TURNING, parts_of("1 2"), count),
                lambda: step_rows(FOUR, TURNING, parts_of("1 2"), count),
                lambda: by_trees(due_of, TURNING, parts_of("1 2"), count),
            ):
                with self.assertRaises(BadSize):
                    deed()

    def test_points_of_another_length(self):
        for field, point in MOTIONS:
            self.assertEqual(flows.check_point(field, list(point)), point)
            self.assertTrue(are_tuples(flows.check_point(field, list(point))))
            for wrong in (point[1:], point + ((1, 1),), []):
                for deed in (
                    lambda: flows.check_point(field, wrong),
                    lambda: motion(field, wrong, 3),
                    lambda: step_rows(FOUR, field, wrong, 3),
                    lambda: by_trees(due_of, field, wrong, 3),
                    lambda: motion(field, wrong, 0),
                    lambda: step_rows(FOUR, field, wrong, 0),
                    lambda: by_trees(due_of, field, wrong, 0),
                    lambda: step(FOUR, field, wrong, (1, 2)),
                    lambda: flows.steps(FOUR, field, wrong, (1, 2), 2),
                    lambda: flows.steps(FOUR, field, wrong, (1, 2), 0),
                ):
                    with self.assertRaises(BadField):
                        deed()

    def test_rules_that_are_not_plain(self):
        for table in (END, MIDDLE, RADAU, STEPWISE, LOBATTO, ODD):
            with self.assertRaises(BadField):
                step(table, GROWING, parts_of("1"), (1, 2))
            with self.assertRaises(BadField):
                flows.steps(table, GROWING, parts_of("1"), (1, 2), 1)

    def test_steps_below_nought(self):
        for count in (-1, -3):
            with self.assertRaises(BadSize):
                flows.steps(FOUR, GROWING, parts_of("1"), (1, 2), count)

    def test_what_is_handed_in_stays(self):
        point, length = [(1, 2), (3, 4)], (1, 2)
        before = (copy.deepcopy(point), HUNTING.shown(), FOUR.shown())
        motion(HUNTING, point, 4)
        step_rows(FOUR, HUNTING, point, 4)
        by_trees(FOUR.weight, HUNTING, point, 4)
        flows.steps(FOUR, HUNTING, point, length, 2)
        with self.assertRaises(BadField):
            step(RADAU, HUNTING, point, length)
        with self.assertRaises(BadSize):
            motion(HUNTING, point, 9)
        self.assertEqual((point, HUNTING.shown(), FOUR.shown()), before)

    def test_parts_by_nought(self):
        with self.assertRaises(BadPart):
            step(FOUR, GROWING, [(1, 0)], (1, 2))

    def test_the_errors_are_step_faults(self):
        with self.assertRaises(StepFault):
            flows.check_count(9)


class PowerRowTests(unittest.TestCase):
    def test_power_product(self):
        one, other = parts_of("1 2 3"), parts_of("-1 1/2 0 4")
        self.assertEqual(flows.power_product(one, other, 5), list(parts_of("-1 -3/2 -2 11/2 8 12")))
        self.assertEqual(flows.power_product(one, other, 2), list(parts_of("-1 -3/2 -2")))
        self.assertEqual(flows.power_product(one, other, 0), list(parts_of("-1")))
        self.assertEqual(flows.power_product(list(one), list(other), 3), flows.power_product(other, one, 3))
        self.assertEqual(flows.power_product(parts_of("2"), parts_of("3"), 2), list(parts_of("6 0 0")))
        self.assertIs(type(flows.power_product(one, other, 2)), list)

    def test_poly_of_rows(self):
        one = poly(poly_rows("5*0.0; 2*1.0; -1*1.2"))
        rows = [parts_of("1 1 0 0"), parts_of("0 2 1 0")]
        # 5 + 2(1 + h) - (1 + h)(2h + hh)(2h + hh)
        self.assertEqual(flows.poly_of_rows(one, rows, 3), list(parts_of("7 2 -4 -8")))
        self.assertEqual(flows.poly_of_rows(one, tuple(list(row) for row in rows), 1), list(parts_of("7 2")))
        self.assertEqual(flows.poly_of_rows({}, rows, 2), list(parts_of("0 0 0")))
        self.assertIs(type(flows.poly_of_rows(one, rows, 3)), list)

    def test_inner_point(self):
        slopes = [[parts_of("1 2 3"), parts_of("0 1 0")], [parts_of("4 0 1"), parts_of("-1 1/2 2")]]
        found = flows.inner_point(parts_of("5 7"), parts_of("1/2 3"), slopes, 2)
        self.assertIs(type(found), list)
        self.assertEqual([tuple(row) for row in found], [parts_of("5 25/2 1"), parts_of("7 -3 2")])
        found = flows.inner_point(list(parts_of("5 7")), list(parts_of("1/2 3")), slopes, 0)
        self.assertEqual([tuple(row) for row in found], [parts_of("5"), parts_of("7")])

    def test_worth_of_rows(self):
        rows = (parts_of("1 2 3"), parts_of("0 0 -1"))
        self.assertEqual(flows.worth_of_rows(rows, (2, 1)), parts_of("17 -4"))
        self.assertEqual(flows.worth_of_rows([list(row) for row in rows], (-1, 2)), parts_of("3/4 -1/4"))
        self.assertEqual(flows.worth_of_rows(rows, (0, 1)), parts_of("1 0"))
        self.assertTrue(are_tuples(flows.worth_of_rows([list(row) for row in rows], (2, 1))))

    def test_lack_rows(self):
        one, other = [list(parts_of("1 2")), list(parts_of("1/2 0"))], [parts_of("1 1/2"), parts_of("1/3 1")]
        found = flows.lack_rows(one, other)
        self.assertEqual(found, (parts_of("0 3/2"), parts_of("1/6 -1")))
        self.assertTrue(are_tuples(found))

    def test_agree_to(self):
        one = (parts_of("1 2 3"), parts_of("4 5 6"))
        for other, due in (
            (one, 2),
            ((parts_of("1 2 3"), parts_of("4 5 7")), 1),
            ((parts_of("1 2 4"), parts_of("4 5 6")), 1),
            ((parts_of("1 2 3"), parts_of("4 0 6")), 0),
            ((parts_of("1 0 3"), parts_of("4 5 7")), 0),
            ((parts_of("1 2 3"), parts_of("0 5 6")), -1),
            ((parts_of("0 0 0"), parts_of("0 0 0")), -1),
        ):
            self.assertEqual(flows.agree_to(one, other), due)
            self.assertEqual(flows.agree_to([list(row) for row in other], [list(row) for row in one]), due)
        self.assertEqual(flows.agree_to((parts_of("1"),), (parts_of("1"),)), 0)
        self.assertEqual(flows.agree_to((), ()), -1)


class RuleTests(unittest.TestCase):
    def test_known_rows(self):
        self.assertEqual(step_rows(EULER, SQUARING, parts_of("3"), 4), (parts_of("3 9 0 0 0"),))
        self.assertEqual(step_rows(END, GROWING, parts_of("3"), 4), (parts_of("3 3 3 3 3"),))
        self.assertEqual(step_rows(MIDDLE, GROWING, parts_of("2"), 4), (parts_of("2 2 1 1/2 1/4"),))
        self.assertEqual(step_rows(TWO_MIDDLE, SQUARING, parts_of("2"), 4), (parts_of("2 4 8 4 0"),))
        self.assertEqual(step_rows(TRAPEZE, TURNING, parts_of("1 0"), 4), (
            parts_of("1 0 -1/2 0 1/8"), parts_of("0 1 0 -1/4 0"),
        ))
        self.assertTrue(are_tuples(step_rows(TRAPEZE, TURNING, list(parts_of("1 0")), 4)))

    def test_rows_of_the_end_rule_are_its_next_point(self):
        # The next point less the length times the field at it is the point itself.
        for field, point in MOTIONS:
            rows = step_rows(END, field, point, 7)
            slopes = rows_in_field(field, [fractions_of(row) for row in rows])
            for row, slope, one in zip(rows, slopes, point):
                left = [mine - its for mine, its in zip(fractions_of(row), [Fraction(0)] + slope)]
                self.assertEqual(left, [Fraction(*one)] + [0] * 7)

    def test_it_agrees_with_the_motion_up_to_its_order_and_not_beyond(self):
        for name, table, order in ORDERS:
            agreed = []
            for field, point in ((HUNTING, parts_of("1/2 3/4")), (STEEP, parts_of("1/2 -1/3"))):
                found = flows.agree_to(step_rows(table, field, point, 7), motion(field, point, 7))
                agreed.append(found)
                self.assertGreaterEqual(found, order)
            self.assertEqual(min(agreed), order, name)

    def test_it_is_told_by_trees(self):
        for field, point in MOTIONS:
            for table in (EULER, END, TWO_END, TRAPEZE, RADAU, STEPWISE, LOBATTO, ODD, THREE):
                self.assertEqual(step_rows(table, field, point, 5), by_trees(table.weight, field, point, 5))

    def test_it_is_told_by_trees_of_up_to_eight_knots(self):
        for table in (FOUR, RADAU):
            found = by_trees(table.weight, HUNTING, parts_of("1/2 3/4"), 8)
            self.assertTrue(are_tuples(found))
            self.assertEqual(found, step_rows(table, HUNTING, parts_of("1/2 3/4"), 8))

    def test_the_motion_is_told_by_trees(self):
        for field, point in MOTIONS:
            self.assertEqual(by_trees(due_of, field, point, 6), motion(field, point, 6))
            self.assertEqual(by_trees(exact(6).at, field, list(point), 6), motion(field, point, 6))
        self.assertEqual(by_trees(due_of, STEEP, parts_of("1/2 -1/3"), 8), motion(STEEP, parts_of("1/2 -1/3"), 8))

    def test_lesser_counts_are_the_rows_cut_off(self):
        point = parts_of("1/2 -1/3")
        for deed in (
            lambda count: motion(STEEP, point, count),
            lambda count: step_rows(ODD, STEEP, point, count),
            lambda count: by_trees(ODD.weight, STEEP, point, count),
        ):
            whole = deed(6)
            for count in range(0, 6):
                self.assertEqual(deed(count), tuple(row[:count + 1] for row in whole))


class StepTests(unittest.TestCase):
    def test_by_hand(self):
        self.assertEqual(step(EULER, SQUARING, parts_of("3"), (1, 2)), parts_of("15/2"))
        self.assertEqual(step(TWO_MIDDLE, SQUARING, parts_of("2"), (1, 2)), parts_of("13/2"))
        self.assertEqual(step(TWO_END, TURNING, parts_of("1 0"), (1, 1)), parts_of("1/2 1"))
        self.assertEqual(step(FOUR, GROWING, parts_of("1"), (1, 1)), parts_of("65/24"))
        self.assertTrue(are_tuples(step(FOUR, TURNING, list(parts_of("1 0")), (1, 1))))

    def test_the_rows_worth_where_the_row_ends(self):
        for table in PLAIN:
            for field, point in MOTIONS:
                if field.degree() > 1:
                    continue
                rows = step_rows(table, field, point, 8)
                self.assertTrue(all(row[table.stages() + 1:] == ((0, 1),) * (8 - table.stages()) for row in rows))
                for length in LENGTHS:
                    self.assertEqual(step(table, field, point, length), flows.worth_of_rows(rows, length))
        for table, field, point in (
            (TWO_MIDDLE, HUNTING, "1/2 3/4"), (TWO_END, SQUARING, "-3"), (TWO_END, STEEP, "1/2 -1/3"),
            (THREE, SQUARING, "2/7"), (EULER, STEEP, "1 2"),
        ):
            rows = step_rows(table, field, parts_of(point), 8)
            for length in LENGTHS:
                self.assertEqual(step(table, field, parts_of(point), length), flows.worth_of_rows(rows, length))

    def test_rows_are_those_of_the_curve_through_steps(self):
        # With four stages a square's step has powers up to the fifteenth.
        lengths = [as_part(Fraction(at, 5)) for at in range(-8, 9)]
        for table in (FOUR, THREE):
            points = [(length, step(table, SQUARING, parts_of("1/2"), length)[0]) for length in lengths]
            row = step_rows(table, SQUARING, parts_of("1/2"), 8)[0]
            self.assertEqual(curve(through(points)[:9]), curve(row))

    def test_no_length_is_no_step(self):
        for field, point in MOTIONS:
            self.assertEqual(step(SIX, field, point, (0, 1)), point)

    def test_steps(self):
        for field, point in MOTIONS:
            found = flows.steps(TWO_END, field, list(point), (1, 3), 3)
            self.assertTrue(are_tuples(found))
            due = [point]
            for _ in range(3):
                due.append(step(TWO_END, field, due[-1], (1, 3)))
            self.assertEqual(found, tuple(due))
            self.assertEqual(flows.steps(TWO_END, field, point, (1, 3), 0), (point,))

    def test_moved(self):
        slopes = [parts_of("1 2"), parts_of("-3 1/2")]
        self.assertEqual(flows.moved(parts_of("5 7"), parts_of("1/2 3"), slopes, (2, 1)), parts_of("-12 12"))
        self.assertEqual(flows.moved(list(parts_of("5 7")), parts_of("0 0"), slopes, (2, 1)), parts_of("5 7"))
        self.assertEqual(flows.moved(parts_of("5 7"), parts_of("0 0"), [], (2, 1)), parts_of("5 7"))
        self.assertTrue(are_tuples(flows.moved(list(parts_of("5 7")), list(parts_of("1/2 3")), slopes, (2, 1))))

    def test_rules_of_areas_step_where_time_alone_tells(self):
        # The first letter is the time: the second's slope, its cube, is told exactly by the weights' areas.
        field = field_of("1*0.0", "1*3.0")
        found = step(THREE, field, parts_of("0 0"), (2, 1))
        self.assertEqual(found, parts_of("2 4"))


class MainPromiseTests(unittest.TestCase):
    def test_a_steps_powers_differ_from_the_motions_by_what_its_trees_lack(self):
        for table in (EULER, END, TWO_END, RADAU, STEPWISE, ODD, THREE, FOUR):
            for field, point in MOTIONS:
                lacks = flows.lack_rows(step_rows(table, field, point, 5), motion(field, point, 5))
                told = by_trees(table.lack, field, point, 5)
                self.assertEqual([row[1:] for row in lacks], [row[1:] for row in told])
                self.assertTrue(all(row[0] == (0, 1) for row in lacks))

    def test_it_agrees_with_the_motion_of_every_field_up_to_its_order(self):
        for table in RULES:
            for field, point in MOTIONS:
                found = flows.agree_to(step_rows(table, field, point, 6), motion(field, point, 6))
                self.assertGreaterEqual(found, table.order(6))

    def test_a_rule_of_order_eight_agrees_up_to_the_eighth_power(self):
        table = even_midsts(4)
        self.assertEqual(table.order(8), 8)
        for field, point in MOTIONS:
            self.assertEqual(step_rows(table, field, point, 8), motion(field, point, 8))

    def test_two_rules_behind_each_other_are_one_by_the_points(self):
        for first, second in itertools.product((EULER, TWO_END, FOUR), (TWO_MIDDLE, THREE)):
            for field, point in MOTIONS[1:5]:
                for at in ((1, 2), (1, 3), (0, 1), (1, 1), (-1, 2)):
                    length = Fraction(3, 4)
                    one = tables.behind(first, second, at)
                    there = step(first, field, point, as_part(length * Fraction(*at)))
                    there = step(second, field, there, as_part(length * (1 - Fraction(*at))))
                    self.assertEqual(step(one, field, point, as_part(length)), there)

    def test_two_rules_behind_each_other_are_one_by_trees(self):
        for first, second in ((END, RADAU), (ODD, EULER), (TRAPEZE, FOUR)):
            one = tables.behind(first, second, (1, 3))
            series = of_table(first, 5).scaled((1, 3)).behind(of_table(second, 5).scaled((2, 3)))
            for field, point in MOTIONS:
                self.assertEqual(by_trees(series.at, field, point, 5), step_rows(one, field, point, 5))

    def test_undone_they_leave_all_as_it_was_by_the_points(self):
        # The end rule undone is the plain one: a step back with it from the rows' worth is the point again.
        back = tables.turned_back(END)
        self.assertTrue(back.is_plain())
        for length in ((1, 2), (-1, 3), (5, 2)):
            there = as_part(Fraction(3) / (1 - Fraction(*length)))
            turned = as_part(-Fraction(*length))
            self.assertEqual(step(back, GROWING, (there,), turned), parts_of("3"))

    def test_undone_they_leave_all_as_it_was_by_trees(self):
        for table in (EULER, RADAU, ODD, FOUR):
            back = of_table(tables.turned_back(table), 5)
            self.assertEqual(back.rows, turned_series(of_table(table, 5)).rows)
            both = of_table(table, 5).behind(back.scaled((-1, 1)))
            for field, point in MOTIONS:
                rows = by_trees(both.at, field, point, 5)
                self.assertEqual(rows, tuple((one,) + ((0, 1),) * 5 for one in point))

    def test_rules_that_keep_squares_keep_what_the_motion_keeps(self):
        kept = poly(poly_rows("1*2.0.0; 2*0.0.2"))
        point = parts_of("1 -1/2 1/3")
        for table, due in (
            (MIDDLE, True), (table_of("1/4 0; 1/2 1/4", "1/2 1/2"), True),
            (table_of("1/4 1/8; 3/8 1/4", "1/2 1/2"), True), (TRAPEZE, False), (FOUR, False), (END, False),
        ):
            self.assertEqual(tables.keeps_squares(table), due)
            found = flows.poly_of_rows(kept, step_rows(table, TWISTING, point, 8), 8)
            self.assertEqual(found[1:] == [(0, 1)] * 8, due)

    def test_fields_of_one_letter_and_of_none(self):
        with self.assertRaises(BadField):
            Field([])
        self.assertEqual(motion(Field([[]]), parts_of("7"), 3), (parts_of("7 0 0 0"),))


if __name__ == "__main__":
    unittest.main()
