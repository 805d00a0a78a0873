"""Tests of what several points promise together, over several modules: rules behind each other, undone, on lines."""

import itertools
import unittest
from fractions import Fraction

from stepwright import matrices
from stepwright.errors import StepFault
from stepwright.fields import line_field
from stepwright.flows import by_trees, motion, step, step_rows
from stepwright.limits import behind_share, grown_by, growth, power_share
from stepwright.rows import by_slopes
from stepwright.series import exact, nothing, of_table, same_to, turned_series
from stepwright.tables import Table, behind, is_same_back, turned_back
from stepwright.trees import tall
from tests.known import (
    END, EULER, FOUR, GROWING, HUNTING, LOBATTO, MIDDLE, MOTIONS, ODD, RADAU, RULES, SIX, STEEP, STEPWISE, THREE,
    TRAPEZE, TWISTING, TWO_END, TWO_MIDDLE, as_part, parts_of,
)

PARTS_OF_STEP = ((0, 1), (1, 1), (1, 2), (1, 3), (5, 7))
PAIRS = ((EULER, TWO_END), (END, RADAU), (ODD, THREE), (FOUR, TRAPEZE), (TWO_MIDDLE, STEPWISE))


class BehindTests(unittest.TestCase):
    def test_one_table_has_the_series_of_both(self):
        for first, second in PAIRS:
            for at in PARTS_OF_STEP:
                rest = as_part(1 - Fraction(*at))
                series = of_table(first, 6).scaled(at).behind(of_table(second, 6).scaled(rest))
                self.assertEqual(of_table(behind(first, second, at), 6).rows, series.rows)

    def test_one_table_has_the_rows_of_both(self):
        for first, second in PAIRS:
            for at in PARTS_OF_STEP:
                rest = as_part(1 - Fraction(*at))
                series = of_table(first, 5).scaled(at).behind(of_table(second, 5).scaled(rest))
                for field, point in MOTIONS[1:6]:
                    told = step_rows(behind(first, second, at), field, point, 5)
                    self.assertEqual(told, by_trees(series.at, field, point, 5))

    def test_one_table_steps_as_both(self):
        for first, second in itertools.product((EULER, TWO_END, THREE), (TWO_MIDDLE, EULER)):
            for at in PARTS_OF_STEP:
                for field, point in MOTIONS:
                    length = Fraction(2, 5)
                    there = step(first, field, point, as_part(length * Fraction(*at)))
                    there = step(second, field, there, as_part(length * (1 - Fraction(*at))))
                    self.assertEqual(step(behind(first, second, at), field, point, as_part(length)), there)

    def test_a_part_of_nought_and_of_one_is_one_of_them(self):
        for first, second in PAIRS:
            self.assertEqual(of_table(behind(first, second, (0, 1)), 6).rows, of_table(second, 6).rows)
            self.assertEqual(of_table(behind(first, second, (1, 1)), 6).rows, of_table(first, 6).rows)

    def test_the_motion_behind_itself_is_the_motion(self):
        for at in PARTS_OF_STEP:
            rest = as_part(1 - Fraction(*at))
            self.assertEqual(exact(7).scaled(at).behind(exact(7).scaled(rest)).rows, exact(7).rows)

    def test_growths_of_both(self):
        for first, second in PAIRS:
            for at in PARTS_OF_STEP:
                share = growth(behind(first, second, at))
                for z in ((-1, 3), (2, 7), (-5, 1)):
                    mine = grown_by(growth(first), as_part(Fraction(*at) * Fraction(*z)))
                    its = grown_by(growth(second), as_part((1 - Fraction(*at)) * Fraction(*z)))
                    self.assertEqual(grown_by(share, z), as_part(Fraction(*mine) * Fraction(*its)))

    def test_steps_of_half_the_length(self):
        for table in (EULER, MIDDLE, RADAU):
            two = behind(table, table, (1, 2))
            for z in ((-1, 3), (2, 7)):
                half = as_part(Fraction(*z) / 2)
                self.assertEqual(grown_by(growth(two), z), grown_by(power_share(growth(table), 2), half))


class UndoneTests(unittest.TestCase):
    def test_power_by_power(self):
        for table in RULES:
            if table.stages() > 4:
                continue
            back = of_table(turned_back(table), 5)
            both = of_table(table, 5).behind(back.scaled((-1, 1)))
            self.assertEqual(both.rows, nothing(5).rows)
            for field, point in MOTIONS[1:6]:
                rows = by_trees(both.at, field, point, 5)
                self.assertEqual(rows, tuple((one,) + ((0, 1),) * 5 for one in point))

    def test_as_a_table(self):
        # A step of length one and one back of as much: put together, a step of no length.
        for table in RULES:
            back = turned_back(table)
            size = table.stages()
            ahead = [row + ((0, 1),) * size for row in table.shares]
            behind_it = [table.weights + tuple((-top, low) for top, low in row) for row in back.shares]
            both = Table(ahead + behind_it, table.weights + tuple((-top, low) for top, low in back.weights))
            self.assertEqual(of_table(both, 5).rows, nothing(5).rows)
            self.assertEqual(growth(both), (((1, 1),), ((1, 1),)))

    def test_by_the_points(self):
        # A plain rule there, and the one that undoes it back: its stages are solved by the growth on a line.
        for table in (EULER, TWO_END, THREE, FOUR, END, RADAU):
            for square in ((parts_of("1/2"),), (parts_of("1 2"), parts_of("-1/3 0"))):
                there = matrices.step_square(growth(table), square, (1, 5))
                back = matrices.step_square(growth(turned_back(table)), square, (-1, 5))
                self.assertEqual(matrices.behind_square(back, there), matrices.one_of(len(square)))

    def test_its_own_undoing_has_an_even_order(self):
        own = [MIDDLE, TRAPEZE, LOBATTO]
        for table in (EULER, END, TWO_END, RADAU, THREE):
            own.append(behind(table, turned_back(table), (1, 2)))
            own.append(behind(turned_back(table), table, (1, 2)))
        for table in own:
            self.assertTrue(is_same_back(table))
            self.assertEqual(table.order(6) & 1, 0)
            self.assertEqual(same_to(turned_series(of_table(table, 5)), of_table(table, 5)), 5)

    def test_others_are_not_their_own_undoing(self):
        for table in (EULER, END, RADAU, FOUR, SIX, ODD):
            self.assertFalse(is_same_back(table))


class LineTests(unittest.TestCase):
    def test_a_growth_is_the_step_of_a_line(self):
        for table in (EULER, TWO_END, THREE, FOUR, SIX):
            for z in ((-3, 2), (0, 1), (1, 7)):
                self.assertEqual((grown_by(growth(table), z),), step(table, GROWING, parts_of("1"), z))

    def test_one_point_back_is_a_stage(self):
        for field, point in MOTIONS:
            self.assertEqual(by_slopes(1).next_point(field, [point], (2, 9)), step(EULER, field, point, (2, 9)))

    def test_a_steps_square_against_the_rows_of_its_powers(self):
        # A plain rule's rows end, so their worth is the step's.
        square = (parts_of("1/2 -3"), parts_of("4 1/3"))
        for table in (EULER, TWO_END, FOUR):
            rows = step_rows(table, line_field(square), parts_of("1 2"), 8)
            told = matrices.of_row(matrices.step_square(growth(table), square, (1, 3)), parts_of("1 2"))
            due = tuple(
                as_part(sum(Fraction(*part) * Fraction(1, 3) ** power for power, part in enumerate(row)))
                for row in rows
            )
            self.assertEqual(told, due)

    def test_shares_behind_each_other_are_squares_behind_each_other(self):
        square = (parts_of("0 -1"), parts_of("1 1/3"))
        for one, other in itertools.product((EULER, END, RADAU, THREE), (MIDDLE, ODD)):
            both = behind_share(growth(one), growth(other))
            mine = matrices.step_square(growth(one), square, (1, 4))
            its = matrices.step_square(growth(other), square, (1, 4))
            self.assertEqual(matrices.step_square(both, square, (1, 4)), matrices.behind_square(mine, its))


class RefusedTests(unittest.TestCase):
    def test_what_is_refused_changes_nothing(self):
        series, rule = of_table(FOUR, 4), by_slopes(2)
        before = (FOUR.shown(), HUNTING.shown(), series.shown(), rule.shown(), growth(FOUR))
        for deed in (
            lambda: step(RADAU, HUNTING, parts_of("1 2"), (1, 2)),
            lambda: step(FOUR, HUNTING, parts_of("1"), (1, 2)),
            lambda: motion(HUNTING, parts_of("1 2"), 9),
            lambda: FOUR.order(9),
            lambda: FOUR.weight(((), 1)),
            lambda: series.at(tall(5)),
            lambda: series.behind(exact(5)),
            lambda: rule.next_point(HUNTING, [parts_of("1 2")], (1, 2)),
            lambda: rule.lack(-1),
            lambda: power_share(growth(FOUR), -1),
            lambda: matrices.step_square(growth(END), matrices.one_of(2), (1, 1)),
        ):
            with self.assertRaises(StepFault):
                deed()
            after = (FOUR.shown(), HUNTING.shown(), series.shown(), rule.shown(), growth(FOUR))
            self.assertEqual(after, before)


class MainPromiseTests(unittest.TestCase):
    def test_rules_put_together_differ_from_the_motion_by_what_their_trees_lack(self):
        for table in (
            behind(EULER, END, (1, 3)), behind(RADAU, TWO_END, (2, 3)), turned_back(THREE),
            behind(turned_back(EULER), EULER, (1, 2)),
        ):
            for field, point in ((HUNTING, parts_of("1/2 3/4")), (TWISTING, parts_of("1 -1/2 1/3")),
                                 (STEEP, parts_of("1/2 -1/3"))):
                mine, due = step_rows(table, field, point, 5), motion(field, point, 5)
                lacks = by_trees(table.lack, field, point, 5)
                for row, due_row, lack_row in zip(mine, due, lacks):
                    for power in range(1, 6):
                        self.assertEqual(
                            Fraction(*row[power]) - Fraction(*due_row[power]), Fraction(*lack_row[power]),
                        )


if __name__ == "__main__":
    unittest.main()
