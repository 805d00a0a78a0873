"""Tests of what several points promise together, over several modules: rules behind each other, undone, on lines."""

import itertools
import unittest
from fractions import Fraction

from stepwright import matrices
from stepwright.areas import Rule, by_places
from stepwright.curves import added, multiplied
from stepwright.desks import Desk, done_again
from stepwright.errors import (
    BadField, BadPaper, BadPart, BadSize, BadStore, BadTable, BadText, BadTree, NoSuch, StepFault,
)
from stepwright.fields import line_field, poly
from stepwright.flows import agree_to, by_trees, motion, poly_of_rows, step, step_rows
from stepwright.limits import behind_share, check_calm, follows_to, grown_by, growth, power_share
from stepwright.nodes import at_part, by_nodes, grown_table, joined_pair, part_weights
from stepwright.parts import over, read
from stepwright.rows import Steps, by_slopes, by_slopes_and_newest
from stepwright.series import exact, nothing, of_table, same_to, turned_series
from stepwright.splits import order_of
from stepwright.tables import Table, behind, check_paper, evenly, is_same_back, keeps_squares, turned_back
from stepwright.trees import tall
from stepwright.walks import Walk, even_walk
from tests.known import (
    END, EULER, FOUR, GROWING, HUNTING, LOBATTO, MIDDLE, MOTIONS, ODD, RADAU, RULES, SIX, STEEP, STEPWISE, THREE,
    TRAPEZE, TURNING, TWISTING, TWO_END, TWO_MIDDLE, as_part, field_of, parts_of,
)

PARTS_OF_STEP = ((0, 1), (1, 1), (1, 2), (1, 3), (5, 7))
PLACES = tuple(parts_of(text) for text in ("0", "1", "1/2", "0 1", "1/3 1", "0 1/2 1", "1/4 3/4", "0 1/3 2/3 1"))
PAIRS = ((EULER, TWO_END), (END, RADAU), (ODD, THREE), (FOUR, TRAPEZE), (TWO_MIDDLE, STEPWISE))


def fraction_of(part):
    return Fraction(*part)


class BehindTests(unittest.TestCase):
    def test_one_table_has_the_series_of_both(self):
        for first, second in PAIRS:
            for at in PARTS_OF_STEP:
                rest = as_part(1 - Fraction(*at))
                series = of_table(first, 6).scaled(at).behind(of_table(second, 6).scaled(rest))
                self.assertEqual(of_table(behind(first, second, at), 6).rows, series.rows)

    def test_one_table_has_the_rows_of_both(self):
        for first, second in PAIRS:
            for at in PARTS_OF_STEP:
                rest = as_part(1 - Fraction(*at))
                series = of_table(first, 5).scaled(at).behind(of_table(second, 5).scaled(rest))
                for field, point in MOTIONS[1:6]:
                    told = step_rows(behind(first, second, at), field, point, 5)
                    self.assertEqual(told, by_trees(series.at, field, point, 5))

    def test_one_table_steps_as_both(self):
        for first, second in itertools.product((EULER, TWO_END, THREE), (TWO_MIDDLE, EULER)):
            for at in PARTS_OF_STEP:
                for field, point in MOTIONS:
                    length = Fraction(2, 5)
                    there = step(first, field, point, as_part(length * Fraction(*at)))
                    there = step(second, field, there, as_part(length * (1 - Fraction(*at))))
                    self.assertEqual(step(behind(first, second, at), field, point, as_part(length)), there)

    def test_a_part_of_nought_and_of_one_is_one_of_them(self):
        for first, second in PAIRS:
            self.assertEqual(of_table(behind(first, second, (0, 1)), 6).rows, of_table(second, 6).rows)
            self.assertEqual(of_table(behind(first, second, (1, 1)), 6).rows, of_table(first, 6).rows)

    def test_the_motion_behind_itself_is_the_motion(self):
        for at in PARTS_OF_STEP:
            rest = as_part(1 - Fraction(*at))
            self.assertEqual(exact(7).scaled(at).behind(exact(7).scaled(rest)).rows, exact(7).rows)

    def test_growths_of_both(self):
        for first, second in PAIRS:
            for at in PARTS_OF_STEP:
                share = growth(behind(first, second, at))
                for z in ((-1, 3), (2, 7), (-5, 1)):
                    mine = grown_by(growth(first), as_part(Fraction(*at) * Fraction(*z)))
                    its = grown_by(growth(second), as_part((1 - Fraction(*at)) * Fraction(*z)))
                    self.assertEqual(grown_by(share, z), as_part(Fraction(*mine) * Fraction(*its)))

    def test_steps_of_half_the_length(self):
        for table in (EULER, MIDDLE, RADAU):
            two = behind(table, table, (1, 2))
            for z in ((-1, 3), (2, 7)):
                half = as_part(Fraction(*z) / 2)
                self.assertEqual(grown_by(growth(two), z), grown_by(power_share(growth(table), 2), half))


class UndoneTests(unittest.TestCase):
    def test_power_by_power(self):
        for table in RULES:
            if table.stages() > 4:
                continue
            back = of_table(turned_back(table), 5)
            both = of_table(table, 5).behind(back.scaled((-1, 1)))
            self.assertEqual(both.rows, nothing(5).rows)
            for field, point in MOTIONS[1:6]:
                rows = by_trees(both.at, field, point, 5)
                self.assertEqual(rows, tuple((one,) + ((0, 1),) * 5 for one in point))

    def test_as_a_table(self):
        # A step of length one and one back of as much: put together, a step of no length.
        for table in RULES:
            back = turned_back(table)
            size = table.stages()
            ahead = [row + ((0, 1),) * size for row in table.shares]
            behind_it = [table.weights + tuple((-top, low) for top, low in row) for row in back.shares]
            both = Table(ahead + behind_it, table.weights + tuple((-top, low) for top, low in back.weights))
            self.assertEqual(of_table(both, 5).rows, nothing(5).rows)
            self.assertEqual(growth(both), (((1, 1),), ((1, 1),)))

    def test_by_the_points(self):
        # A plain rule there, and the one that undoes it back: its stages are solved by the growth on a line.
        for table in (EULER, TWO_END, THREE, FOUR, END, RADAU):
            for square in ((parts_of("1/2"),), (parts_of("1 2"), parts_of("-1/3 0"))):
                there = matrices.step_square(growth(table), square, (1, 5))
                back = matrices.step_square(growth(turned_back(table)), square, (-1, 5))
                self.assertEqual(matrices.behind_square(back, there), matrices.one_of(len(square)))

    def test_its_own_undoing_has_an_even_order(self):
        own = [MIDDLE, TRAPEZE, LOBATTO]
        for table in (EULER, END, TWO_END, RADAU, THREE):
            own.append(behind(table, turned_back(table), (1, 2)))
            own.append(behind(turned_back(table), table, (1, 2)))
        for table in own:
            self.assertTrue(is_same_back(table))
            self.assertEqual(table.order(6) & 1, 0)
            self.assertEqual(same_to(turned_series(of_table(table, 5)), of_table(table, 5)), 5)

    def test_others_are_not_their_own_undoing(self):
        for table in (EULER, END, RADAU, FOUR, SIX, ODD):
            self.assertFalse(is_same_back(table))


class LineTests(unittest.TestCase):
    def test_a_growth_is_the_step_of_a_line(self):
        for table in (EULER, TWO_END, THREE, FOUR, SIX):
            for z in ((-3, 2), (0, 1), (1, 7)):
                self.assertEqual((grown_by(growth(table), z),), step(table, GROWING, parts_of("1"), z))

    def test_one_point_back_is_a_stage(self):
        for field, point in MOTIONS:
            self.assertEqual(by_slopes(1).next_point(field, [point], (2, 9)), step(EULER, field, point, (2, 9)))

    def test_a_steps_square_against_the_rows_of_its_powers(self):
        # A plain rule's rows end, so their worth is the step's.
        square = (parts_of("1/2 -3"), parts_of("4 1/3"))
        for table in (EULER, TWO_END, FOUR):
            rows = step_rows(table, line_field(square), parts_of("1 2"), 8)
            told = matrices.of_row(matrices.step_square(growth(table), square, (1, 3)), parts_of("1 2"))
            due = tuple(
                as_part(sum(Fraction(*part) * Fraction(1, 3) ** power for power, part in enumerate(row)))
                for row in rows
            )
            self.assertEqual(told, due)

    def test_shares_behind_each_other_are_squares_behind_each_other(self):
        square = (parts_of("0 -1"), parts_of("1 1/3"))
        for one, other in itertools.product((EULER, END, RADAU, THREE), (MIDDLE, ODD)):
            both = behind_share(growth(one), growth(other))
            mine = matrices.step_square(growth(one), square, (1, 4))
            its = matrices.step_square(growth(other), square, (1, 4))
            self.assertEqual(matrices.step_square(both, square, (1, 4)), matrices.behind_square(mine, its))


class SameRulesTests(unittest.TestCase):
    def test_a_table_of_places_has_the_weights_of_the_areas_rule(self):
        for places in PLACES:
            self.assertEqual(by_nodes(places).weights, by_places(places).weights)

    def test_places_and_slopes_behind_each_other(self):
        # Through slopes at so many places, the last two a step apart: the area of that step alone.
        for count in range(1, 5):
            places = [(at - count + 1, 1) for at in range(count + 1)]
            self.assertEqual(by_slopes_and_newest(count).slopes, by_places(places).weights)
            self.assertEqual(by_slopes(count).slopes[:-1], by_places(places[:-1]).weights)

    def test_a_step_of_a_field_of_time_alone_is_an_area(self):
        # The second letter moves by a curve of the first, which is the time; plain rules step, others tell rows.
        field = field_of("1*0.0", "2*0.0; -1*1.0; 1/3*3.0")
        for table in RULES:
            if len(set(table.places)) < table.stages() or sum(map(fraction_of, table.weights)) != 1:
                continue
            rule = Rule(table.places, table.weights)
            length = Fraction(3, 2)
            rows = step_rows(table, field, parts_of("0 1"), 4)
            told = sum(Fraction(*part) * length ** power for power, part in enumerate(rows[1]))
            area = rule.area(lambda at: field.at((at, (0, 1)))[1], (0, 1), as_part(length))
            self.assertEqual(as_part(told - 1), area)
            if table.is_plain():
                self.assertEqual(step(table, field, parts_of("0 1"), as_part(length))[1], as_part(told))

    def test_areas_are_exact_as_far_as_weights_are_even(self):
        for places in PLACES:
            table, rule = by_nodes(places), by_places(places)
            self.assertTrue(evenly(table, rule.exact_to(9) + 1))
            self.assertFalse(evenly(table, rule.exact_to(9) + 2))

    def test_rules_of_places_follow_as_far_as_their_order_on_lines(self):
        for places in PLACES:
            table = by_nodes(places)
            self.assertGreaterEqual(follows_to(growth(table), 9), table.order(6))

    def test_an_even_walk_is_steps_of_tables_behind_each_other(self):
        for field, point in MOTIONS[:4]:
            there, finer, _ = even_walk(TWO_END, field, point, (1, 3), 1)
            self.assertEqual(there, step(TWO_END, field, point, (1, 3)))
            self.assertEqual(finer, step(behind(TWO_END, TWO_END, (1, 2)), field, point, (1, 3)))

    def test_turns_of_two_shears_agree_with_the_motion_up_to_their_order(self):
        # Each of the two letters moves alone, by the other: its motion is a shear, told whole by the first power.
        due = motion(TURNING, parts_of("1 0"), 6)
        for turns, order in (
            ("a 1 b 1", 1), ("a 1/2 b 1 a 1/2", 2), ("a 7/24 b 2/3 a 3/4 b -2/3 a -1/24 b 1", 3), ("a 1/2 b 1", 0),
        ):
            words = turns.split()
            row = [(letter, parts_of(one)[0]) for letter, one in zip(words[::2], words[1::2])]
            self.assertEqual(order_of(row, 5), order)
            point = [parts_of("1"), ()]
            for letter, (top, low) in row:
                if letter == "a":
                    point[0] = added(point[0], multiplied(((0, 1), (-top, low)), point[1]))
                else:
                    point[1] = added(point[1], multiplied(((0, 1), (top, low)), point[0]))
            told = [one + ((0, 1),) * (7 - len(one)) for one in point]
            self.assertGreaterEqual(agree_to(told, due), order)
            self.assertLessEqual(agree_to(told, due), order + 1)


class RefusedTests(unittest.TestCase):
    def setUp(self):
        self.table, self.field, self.series = FOUR, HUNTING, of_table(FOUR, 4)
        self.rule, self.walk, self.desk = by_slopes(2), Walk(EULER, [(1, 2)], (1, 9), (1, 2), (2, 1), (1, 2)), Desk()
        for line in ("rule 0,0 1/2,0 0,1", "field 1*1", "at 2"):
            self.desk.say(line)

    def held(self):
        walk = self.walk
        return (
            self.table.shown(), self.field.shown(), self.series.shown(), self.rule.shown(), growth(self.table),
            (walk.table.shown(), walk.others, walk.most, walk.shorter, walk.longer, walk.calm),
            (self.desk.table.shown(), self.desk.field.shown(), self.desk.point, self.desk.text, self.desk.many),
        )

    def deeds(self):
        point = parts_of("1 2")
        return (
            (BadPart, lambda: over((1, 1), (0, 3))),
            (BadPart, lambda: read("1/")),
            (BadPart, lambda: Table([[(1, 0)]], [(1, 1)])),
            (BadPart, lambda: grown_by(growth(END), (1, 1))),
            (BadPart, lambda: matrices.step_square(growth(END), matrices.one_of(2), (1, 1))),
            (BadPart, lambda: self.desk.do("step x")),
            (BadTree, lambda: self.table.weight(((), 1))),
            (BadTree, lambda: self.desk.do("weight (")),
            (BadTable, lambda: Table([[(1, 1)]], [])),
            (BadTable, lambda: Steps([(1, 1), (0, 1)], [(1, 1), (0, 1)])),
            (BadTable, lambda: by_nodes([(1, 2), (1, 2)])),
            (BadTable, lambda: order_of([], 3)),
            (BadTable, lambda: self.desk.do("nodes 0,0")),
            (BadField, lambda: step(RADAU, self.field, point, (1, 2))),
            (BadField, lambda: step(self.table, self.field, point[1:], (1, 2))),
            (BadField, lambda: self.rule.next_point(self.field, [point], (1, 2))),
            (BadField, lambda: matrices.check_square([])),
            (BadField, lambda: self.walk.both(self.field, point[:1], (1, 2))),
            (BadField, lambda: self.desk.do("at 1,2")),
            (BadPaper, lambda: check_paper(self.table, 2, [((), (1, 2))])),
            (BadPaper, lambda: check_calm(growth(EULER), [(1, 1)])),
            (BadPaper, lambda: self.walk.check(GROWING, [((0, 1), ((1, 1),), (1, 2), (1, 9), True)], (1, 1))),
            (BadSize, lambda: motion(self.field, point, 9)),
            (BadSize, lambda: self.table.order(9)),
            (BadSize, lambda: self.series.behind(exact(5))),
            (BadSize, lambda: self.rule.order(-1)),
            (BadSize, lambda: power_share(growth(self.table), -1)),
            (BadSize, lambda: self.walk.go(self.field, point, (1, 1), (0, 1), (1, 2), 3)),
            (BadSize, lambda: self.desk.do("lacks 9")),
            (BadText, lambda: self.desk.do("point 1")),
            (BadText, lambda: self.desk.do("field 1")),
            (BadStore, lambda: done_again("0 rule 0 1 7\n")),
            (NoSuch, lambda: self.series.at(tall(5))),
            (NoSuch, lambda: Desk().do("tells")),
        )

    def refuse(self, kind, deed):
        before = self.held()
        with self.assertRaises(StepFault) as caught:
            deed()
        self.assertIs(type(caught.exception), kind)
        self.assertEqual(self.held(), before)

    def test_each_kind_with_nothing_changed_behind_it(self):
        deeds = self.deeds()
        self.assertEqual(len(set(kind for kind, deed in deeds)), 9)
        for kind, deed in deeds:
            self.refuse(kind, deed)

    def test_whatever_was_refused_ahead_of_it(self):
        deeds = self.deeds()
        for turn in range(1, len(deeds)):
            for kind, deed in (deeds[turn], deeds[-turn], deeds[turn]):
                self.refuse(kind, deed)


class KeptTests(unittest.TestCase):
    def test_rules_that_keep_squares_keep_forms_step_by_step(self):
        rules = (MIDDLE, Table([parts_of("1/4 0"), parts_of("1/2 1/4")], parts_of("1/2 1/2")),
                 behind(MIDDLE, MIDDLE, (1, 3)), EULER, TRAPEZE, FOUR, behind(MIDDLE, END, (1, 2)))
        form, square = (parts_of("2 0"), parts_of("0 1")), (parts_of("0 -1"), parts_of("2 0"))
        self.assertTrue(matrices.still_form(form, square))
        for table, due in zip(rules, (True, True, True, False, None, False, False)):
            told = matrices.step_square(growth(table), square, (2, 7))
            row, first = parts_of("1 -3"), matrices.form_worth(form, parts_of("1 -3"))
            for count in range(1, 5):
                row = matrices.of_row(told, row)
                self.assertEqual(row, matrices.of_row(matrices.raised_square(told, count), parts_of("1 -3")))
                if due is not None:
                    self.assertEqual(matrices.form_worth(form, row) == first, due)
            if due is not None:
                self.assertEqual(matrices.square_kept(form, told), due)
                self.assertEqual(keeps_squares(table), due)

    def test_kept_polynomials_of_squares_power_by_power(self):
        kept = poly([((2, 0, 0), (1, 1)), ((0, 0, 2), (2, 1))])
        self.assertTrue(TWISTING.keeps(kept))
        for table in (MIDDLE, behind(MIDDLE, MIDDLE, (1, 3)), TRAPEZE, END, THREE):
            rows = step_rows(table, TWISTING, parts_of("1 -1/2 1/3"), 7)
            told = poly_of_rows(kept, rows, 7)
            self.assertEqual(told[1:] == [(0, 1)] * 7, keeps_squares(table))


class MainPromiseTests(unittest.TestCase):
    def test_rules_put_together_differ_from_the_motion_by_what_their_trees_lack(self):
        for table in (
            behind(EULER, END, (1, 3)), behind(RADAU, TWO_END, (2, 3)), turned_back(THREE),
            behind(turned_back(EULER), EULER, (1, 2)), by_nodes(parts_of("0 1/4 1")), grown_table(TWO_MIDDLE),
            joined_pair(THREE, parts_of("1/3 1/3 1/3")), at_part(TWO_END, part_weights(parts_of("0 1")), (1, 3)),
        ):
            for field, point in ((HUNTING, parts_of("1/2 3/4")), (TWISTING, parts_of("1 -1/2 1/3")),
                                 (STEEP, parts_of("1/2 -1/3"))):
                mine, due = step_rows(table, field, point, 5), motion(field, point, 5)
                lacks = by_trees(table.lack, field, point, 5)
                for row, due_row, lack_row in zip(mine, due, lacks):
                    for power in range(1, 6):
                        self.assertEqual(
                            Fraction(*row[power]) - Fraction(*due_row[power]), Fraction(*lack_row[power]),
                        )

    def test_orders_by_trees_against_motions(self):
        for table in (
            by_nodes(parts_of("1/4 3/4")), by_nodes(parts_of("0 1/2 1")), behind(RADAU, RADAU, (1, 2)),
            turned_back(RADAU), grown_table(THREE), joined_pair(TWO_END, parts_of("1 0")), ODD, STEPWISE,
        ):
            agreed = []
            for field, point in ((HUNTING, parts_of("1/2 3/4")), (TWISTING, parts_of("1 -1/2 1/3")),
                                 (STEEP, parts_of("1/2 -1/3")), (GROWING, parts_of("2/3"))):
                agreed.append(agree_to(step_rows(table, field, point, 6), motion(field, point, 6)))
            self.assertEqual(min(agreed), table.order(6))


if __name__ == "__main__":
    unittest.main()
