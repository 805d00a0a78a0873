"""Tests of stepwright.matrices: point 13, and points 1 and 18 as far as they concern matrices."""

import copy
import itertools
import unittest
from fractions import Fraction

from stepwright import matrices
from stepwright.curves import multiplied
from stepwright.errors import BadField, BadPart, StepFault
from stepwright.fields import line_field
from stepwright.flows import motion, step
from stepwright.limits import growth
from stepwright.tables import keeps_squares
from tests.known import (
    END, EULER, FOUR, LOBATTO, MIDDLE, RADAU, RULES, THREE, TRAPEZE, TWO_END, are_tuples, as_part, fractions_of,
    parts_of, table_of,
)


def square_of(text):
    """Read a square: rows with semicolons between."""
    return tuple(parts_of(row) for row in text.split(";"))


def lists_of(square):
    return [list(row) for row in square]


QUARTER = square_of("0 -1; 1 0")
SHEAR = square_of("1 2; 0 1")
ODD_ONE = square_of("1/2 -3; 4 1/3")
THIN = square_of("1 2; 2 4")
THREE_WIDE = square_of("1 2 -1; 0 1/2 3; 4 0 1")
SQUARES = (square_of("3"), square_of("-2/3"), QUARTER, SHEAR, ODD_ONE, THREE_WIDE, square_of("0 1 0; 0 0 1; 1 0 0"))
NOT_SQUARES = ([], (), [()], square_of("1 2"), square_of("1; 2"), square_of("1 2; 3"), square_of("1 2 3; 4 5; 6 7 8"))


def product_of(one, other):
    """Multiply squares of parts, by fractions."""
    mine, its = [fractions_of(row) for row in one], [fractions_of(row) for row in other]
    return tuple(
        tuple(as_part(sum(a * row[column] for a, row in zip(line, its))) for column in range(len(its)))
        for line in mine
    )


class SquareTests(unittest.TestCase):
    def test_check_square(self):
        for square in SQUARES:
            found = matrices.check_square(lists_of(square))
            self.assertEqual(found, square)
            self.assertTrue(are_tuples(found))
            self.assertEqual(matrices.check_square(square), square)

    def test_rows_of_unlike_lengths_and_no_rows(self):
        for rows in NOT_SQUARES:
            for deed in (
                lambda: matrices.check_square(rows),
                lambda: matrices.sum_of(rows, SHEAR),
                lambda: matrices.sum_of(SHEAR, rows),
                lambda: matrices.behind_square(rows, SHEAR),
                lambda: matrices.behind_square(SHEAR, rows),
                lambda: matrices.answer(rows, parts_of("1 2")),
                lambda: matrices.undone_square(rows),
                lambda: matrices.of_curve(parts_of("1 2"), rows),
                lambda: matrices.of_curve((), rows),
                lambda: matrices.step_square(growth(EULER), rows, (1, 2)),
                lambda: matrices.raised_square(rows, 2),
                lambda: matrices.raised_square(rows, 0),
                lambda: matrices.square_kept(rows, SHEAR),
                lambda: matrices.square_kept(SHEAR, rows),
                lambda: matrices.still_form(rows, SHEAR),
                lambda: matrices.still_form(SHEAR, rows),
            ):
                with self.assertRaises(BadField):
                    deed()

    def test_unlike_sizes(self):
        for one, other in itertools.permutations((square_of("3"), SHEAR, THREE_WIDE), 2):
            for deed in (
                matrices.sum_of, matrices.behind_square, matrices.square_kept, matrices.still_form,
            ):
                with self.assertRaises(BadField):
                    deed(one, other)

    def test_one_of(self):
        self.assertEqual(matrices.one_of(1), square_of("1"))
        self.assertEqual(matrices.one_of(3), square_of("1 0 0; 0 1 0; 0 0 1"))
        self.assertTrue(are_tuples(matrices.one_of(2)))
        for size in (0, -1):
            with self.assertRaises(BadField):
                matrices.one_of(size)

    def test_one_of_leaves_all_as_it_is(self):
        for square in SQUARES:
            one = matrices.one_of(len(square))
            self.assertEqual(matrices.behind_square(one, square), square)
            self.assertEqual(matrices.behind_square(square, one), square)

    def test_sums(self):
        found = matrices.sum_of(lists_of(SHEAR), ODD_ONE)
        self.assertEqual(found, square_of("3/2 -1; 4 4/3"))
        self.assertTrue(are_tuples(found))
        self.assertEqual(matrices.sum_of(ODD_ONE, SHEAR), found)

    def test_times_a_part(self):
        found = matrices.times_part(lists_of(ODD_ONE), (-2, 3))
        self.assertEqual(found, square_of("-1/3 2; -8/3 -2/9"))
        self.assertTrue(are_tuples(found))

    def test_behind_does_the_other_first(self):
        self.assertEqual(matrices.behind_square(QUARTER, SHEAR), square_of("0 -1; 1 2"))
        self.assertEqual(matrices.behind_square(SHEAR, QUARTER), square_of("2 -1; 1 0"))
        self.assertTrue(are_tuples(matrices.behind_square(lists_of(SHEAR), lists_of(QUARTER))))
        for one, other in itertools.product(SQUARES, SQUARES):
            if len(one) == len(other):
                self.assertEqual(matrices.behind_square(lists_of(one), other), product_of(one, other))
                row = parts_of("2 -1/2 7")[:len(one)]
                self.assertEqual(
                    matrices.of_row(matrices.behind_square(one, other), row),
                    matrices.of_row(one, matrices.of_row(other, row)),
                )

    def test_of_row(self):
        found = matrices.of_row(lists_of(ODD_ONE), list(parts_of("2 1")))
        self.assertEqual(found, parts_of("-2 25/3"))
        self.assertTrue(are_tuples(found))
        for row in ("", "1", "1 2 3"):
            with self.assertRaises(BadPart):
                matrices.of_row(ODD_ONE, parts_of(row))

    def test_turned(self):
        self.assertEqual(matrices.turned_square(lists_of(THREE_WIDE)), square_of("1 0 4; 2 1/2 0; -1 3 1"))
        self.assertTrue(are_tuples(matrices.turned_square(lists_of(THREE_WIDE))))
        for one, other in itertools.product(SQUARES, SQUARES):
            self.assertEqual(matrices.turned_square(matrices.turned_square(one)), one)
            if len(one) == len(other):
                self.assertEqual(
                    matrices.turned_square(matrices.behind_square(one, other)),
                    matrices.behind_square(matrices.turned_square(other), matrices.turned_square(one)),
                )

    def test_size_by_rows(self):
        for square, due in (
            (SHEAR, "3"), (QUARTER, "1"), (ODD_ONE, "13/3"), (THREE_WIDE, "5"), (square_of("-2/3"), "2/3"),
            (square_of("0 0; 0 0"), "0"), (square_of("1 -1; -3 1/2"), "7/2"),
        ):
            self.assertEqual((matrices.size_by_rows(lists_of(square)),), parts_of(due))

    def test_what_is_handed_in_stays(self):
        one, row = lists_of(ODD_ONE), list(parts_of("1 2"))
        before = copy.deepcopy((one, row))
        matrices.answer(one, row)
        matrices.undone_square(one)
        matrices.raised_square(one, 3)
        matrices.step_square(growth(RADAU), one, (1, 5))
        with self.assertRaises(BadField):
            matrices.behind_square(one, lists_of(THREE_WIDE))
        self.assertEqual((one, row), before)


class AnswerTests(unittest.TestCase):
    def test_by_hand(self):
        self.assertEqual(matrices.answer(lists_of(SHEAR), list(parts_of("5 2"))), parts_of("1 2"))
        self.assertEqual(matrices.answer(QUARTER, parts_of("5 2")), parts_of("2 -5"))
        self.assertEqual(matrices.answer(square_of("3"), parts_of("2")), parts_of("2/3"))
        self.assertTrue(are_tuples(matrices.answer(lists_of(SHEAR), list(parts_of("5 2")))))

    def test_its_row_is_the_told_one(self):
        for square in SQUARES:
            for row in ("1 2 3", "0 0 0", "-1/2 7 1/3"):
                due = parts_of(row)[:len(square)]
                self.assertEqual(matrices.of_row(square, matrices.answer(square, due)), due)

    def test_none_or_more(self):
        for square, row in (
            (THIN, "1 2"), (THIN, "1 3"), (THIN, "0 0"), (square_of("0"), "0"), (square_of("0"), "1"),
            (square_of("1 2 3; 4 5 6; 7 8 9"), "1 2 3"), (square_of("0 1; 0 2"), "1 2"),
        ):
            with self.assertRaises(BadPart):
                matrices.answer(square, parts_of(row))

    def test_another_length(self):
        for row in ("", "1", "1 2 3"):
            with self.assertRaises(BadField):
                matrices.answer(SHEAR, parts_of(row))
            # The length comes ahead of whether there is an answer.
            with self.assertRaises(BadField):
                matrices.answer(THIN, parts_of(row))

    def test_undone(self):
        self.assertEqual(matrices.undone_square(SHEAR), square_of("1 -2; 0 1"))
        for square in SQUARES:
            back = matrices.undone_square(lists_of(square))
            self.assertTrue(are_tuples(back))
            self.assertEqual(matrices.behind_square(back, square), matrices.one_of(len(square)))
            self.assertEqual(matrices.behind_square(square, back), matrices.one_of(len(square)))
            self.assertEqual(matrices.undone_square(back), square)

    def test_not_undone(self):
        for square in (THIN, square_of("0"), square_of("1 2 3; 4 5 6; 7 8 9"), square_of("0 0; 0 0")):
            with self.assertRaises(BadPart):
                matrices.undone_square(square)


class CurveTests(unittest.TestCase):
    def test_by_hand(self):
        self.assertEqual(matrices.of_curve(parts_of("1 2 1"), lists_of(SHEAR)), square_of("4 8; 0 4"))
        self.assertEqual(matrices.of_curve(parts_of("1 0 1"), QUARTER), square_of("0 0; 0 0"))
        self.assertEqual(matrices.of_curve(list(parts_of("1/2")), QUARTER), square_of("1/2 0; 0 1/2"))
        self.assertTrue(are_tuples(matrices.of_curve(list(parts_of("1 2 1")), lists_of(SHEAR))))

    def test_a_bare_curve(self):
        for square in SQUARES:
            found = matrices.of_curve((), square)
            self.assertEqual(found, ((((0, 1),) * len(square)),) * len(square))
            self.assertTrue(are_tuples(found))

    def test_products_of_curves_are_done_behind_each_other(self):
        one, other = parts_of("1 -2 1/3"), parts_of("0 5 0 1")
        for square in SQUARES:
            mine, its = matrices.of_curve(one, square), matrices.of_curve(other, square)
            self.assertEqual(matrices.of_curve(multiplied(one, other), square), matrices.behind_square(mine, its))
            self.assertEqual(matrices.behind_square(mine, its), matrices.behind_square(its, mine))

    def test_raised(self):
        self.assertEqual(matrices.raised_square(SHEAR, 5), square_of("1 10; 0 1"))
        self.assertEqual(matrices.raised_square(QUARTER, 4), matrices.one_of(2))
        for square in SQUARES:
            self.assertEqual(matrices.raised_square(lists_of(square), 0), matrices.one_of(len(square)))
            self.assertEqual(matrices.raised_square(lists_of(square), 1), square)
            self.assertEqual(matrices.raised_square(square, 3), product_of(square, product_of(square, square)))
            self.assertTrue(are_tuples(matrices.raised_square(lists_of(square), 2)))

    def test_raised_below_nought(self):
        for count in (-1, -2):
            with self.assertRaises(BadField):
                matrices.raised_square(SHEAR, count)


class StepSquareTests(unittest.TestCase):
    def test_by_hand(self):
        self.assertEqual(matrices.step_square(growth(EULER), lists_of(ODD_ONE), (2, 1)), square_of("2 -6; 8 5/3"))
        self.assertEqual(matrices.step_square(growth(END), QUARTER, (1, 1)), square_of("1/2 -1/2; 1/2 1/2"))
        self.assertEqual(matrices.step_square(growth(MIDDLE), QUARTER, (2, 1)), QUARTER)
        self.assertTrue(are_tuples(matrices.step_square(growth(END), lists_of(QUARTER), (1, 1))))

    def test_against_steps_of_line_fields(self):
        for table in (EULER, TWO_END, THREE, FOUR):
            for square in SQUARES:
                point = parts_of("2 -1/2 7")[:len(square)]
                for length in ((1, 2), (-1, 3), (0, 1)):
                    found = matrices.of_row(matrices.step_square(growth(table), square, length), point)
                    self.assertEqual(found, step(table, line_field(square), point, length))

    def test_rules_that_hang_on_themselves_against_their_stages(self):
        # Each stage's slope is the square's row of the point and the length times shares of slopes.
        square = [fractions_of(row) for row in ODD_ONE]
        for table in (RADAU, LOBATTO, END, table_of("1/3 -2; 5/7 1", "2/3 -1")):
            length, point = Fraction(1, 4), [Fraction(2), Fraction(-1, 2)]
            many = table.stages()
            size = 2 * many
            rows = [[Fraction(1 if a == b else 0) for b in range(size)] for a in range(size)]
            for a, b in itertools.product(range(many), range(many)):
                for x, y in itertools.product(range(2), range(2)):
                    rows[2 * a + x][2 * b + y] -= length * Fraction(*table.shares[a][b]) * square[x][y]
            due = [sum(square[k % 2][y] * point[y] for y in range(2)) for k in range(size)]
            flat = matrices.answer([[as_part(one) for one in row] for row in rows], [as_part(one) for one in due])
            slopes = fractions_of(flat)
            there = tuple(
                as_part(point[x] + length * sum(Fraction(*w) * slopes[2 * a + x] for a, w in enumerate(table.weights)))
                for x in range(2)
            )
            told = matrices.step_square(growth(table), ODD_ONE, as_part(length))
            self.assertEqual(matrices.of_row(told, tuple(as_part(one) for one in point)), there)

    def test_it_agrees_with_the_motion_up_to_its_order(self):
        # What a step's square lacks, length by length, is less and less by the power behind the order.
        point = parts_of("1 -1/2")
        for table in (MIDDLE, RADAU, LOBATTO):
            order = table.order(6)
            rows = motion(line_field(ODD_ONE), point, order)
            for turn in (10, 20):
                length = Fraction(1, 10 ** turn)
                found = matrices.of_row(matrices.step_square(growth(table), ODD_ONE, as_part(length)), point)
                for one, row in zip(fractions_of(found), rows):
                    due = sum(Fraction(*part) * length ** power for power, part in enumerate(row))
                    self.assertLess(abs(one - due), 1000 * length ** (order + 1))

    def test_where_it_can_not_be_undone(self):
        for table, square, length in (
            (END, square_of("1"), (1, 1)), (END, square_of("2 0; 0 3"), (1, 3)), (MIDDLE, square_of("4"), (1, 2)),
        ):
            with self.assertRaises(BadPart):
                matrices.step_square(growth(table), square, length)


class FormTests(unittest.TestCase):
    def test_kept(self):
        for form, square, due in (
            ("1 0; 0 1", "0 -1; 1 0", True), ("1 0; 0 1", "3/5 -4/5; 4/5 3/5", True), ("1 0; 0 1", "1 1; 0 1", False),
            ("0 1; -1 0", "1 1; 0 1", True), ("0 1; -1 0", "2 0; 0 1/2", True), ("0 1; -1 0", "2 0; 0 1", False),
            ("1 0; 0 -1", "5/4 3/4; 3/4 5/4", True), ("1 0; 0 -1", "0 -1; 1 0", False), ("2", "-1", True),
            ("2", "1/2", False), ("0 0; 0 0", "7 1; 2 3", True), ("1 2; 0 1", "1 0; 0 1", True),
            ("1 0 0; 0 1 0; 0 0 1", "0 1 0; 0 0 1; 1 0 0", True), ("1 0 0; 0 2 0; 0 0 1", "0 1 0; 0 0 1; 1 0 0", False),
            # Kept only when the one that stands turned comes first.
            ("1 1; 1 2", "0 -2; 1 2", False),
        ):
            self.assertEqual(matrices.square_kept(lists_of(square_of(form)), lists_of(square_of(square))), due)

    def test_still(self):
        for form, square, due in (
            ("1 0; 0 1", "0 -1; 1 0", True), ("1 0; 0 1", "1 0; 0 1", False), ("2 0; 0 1", "0 -1; 2 0", True),
            ("2 0; 0 1", "0 -2; 1 0", False), ("0 1; -1 0", "3 2; 5 -3", True), ("0 1; -1 0", "3 2; 5 3", False),
            ("0 1; 1 0", "1 0; 0 -1", True), ("0 0; 0 0", "1 2; 3 4", True), ("5", "0", True), ("5", "1", False),
            ("1 0 0; 0 1 0; 0 0 1", "0 1 2; -1 0 3; -2 -3 0", True),
        ):
            self.assertEqual(matrices.still_form(lists_of(square_of(form)), lists_of(square_of(square))), due)

    def test_worth(self):
        self.assertEqual(matrices.form_worth(lists_of(square_of("1 2; 0 3")), list(parts_of("5 -1"))), (18, 1))
        self.assertEqual(matrices.form_worth(square_of("1/2"), parts_of("3")), (9, 2))
        for row in ("", "1", "1 2 3"):
            with self.assertRaises(BadPart):
                matrices.form_worth(SHEAR, parts_of(row))

    def test_a_kept_form_is_worth_the_same_behind_the_square(self):
        form, square = square_of("1 0; 0 -1"), square_of("5/4 3/4; 3/4 5/4")
        for row in ("1 0", "2 -3", "1/2 1/3"):
            there = matrices.of_row(square, parts_of(row))
            self.assertEqual(matrices.form_worth(form, there), matrices.form_worth(form, parts_of(row)))

    def test_rules_that_keep_squares_keep_still_forms(self):
        both_ways = table_of("1/4 0; 1/2 1/4", "1/2 1/2")
        for form, square in (("2 0; 0 1", "0 -1; 2 0"), ("0 1; -1 0", "3 2; 5 -3"), ("0 1; 1 0", "1/3 0; 0 -1/3")):
            self.assertTrue(matrices.still_form(square_of(form), square_of(square)))
            for table in RULES + (both_ways,):
                told = matrices.step_square(growth(table), square_of(square), (1, 7))
                if keeps_squares(table):
                    self.assertTrue(matrices.square_kept(square_of(form), told))
                if table in (EULER, END, FOUR, RADAU):
                    self.assertFalse(matrices.square_kept(square_of(form), told))
        self.assertTrue(keeps_squares(both_ways) and keeps_squares(MIDDLE))
        self.assertFalse(keeps_squares(TRAPEZE))

    def test_they_are_step_faults(self):
        with self.assertRaises(StepFault):
            matrices.check_square([])


if __name__ == "__main__":
    unittest.main()
