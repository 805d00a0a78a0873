"""Tests of stepwright.rows: point 11, and points 1 and 18 as far as they concern rows."""

import copy
import unittest
from fractions import Fraction

from stepwright import rows
from stepwright.errors import BadField, BadPart, BadSize, BadTable, StepFault
from stepwright.flows import step, steps
from stepwright.rows import Steps
from tests.known import (
    EULER, GROWING, HUNTING, MOTIONS, SQUARING, STEEP, TURNING, are_tuples, as_part, field_of, fractions_of, parts_of,
)

# For one to five earlier slopes: the slopes' parts, by known tables.
BY_SLOPES = (
    "1 0",
    "-1/2 3/2 0",
    "5/12 -16/12 23/12 0",
    "-9/24 37/24 -59/24 55/24 0",
    "251/720 -1274/720 2616/720 -2774/720 1901/720 0",
)
BY_SLOPES_AND_NEWEST = (
    "1/2 1/2",
    "-1/12 8/12 5/12",
    "1/24 -5/24 19/24 9/24",
    "-19/720 106/720 -264/720 646/720 251/720",
    "27/1440 -173/1440 482/1440 -798/1440 1427/1440 475/1440",
)
BY_POINTS = (
    "-1 1",
    "1/2 -2 3/2",
    "-1/3 3/2 -3 11/6",
    "1/4 -4/3 3 -4 25/12",
    "-1/5 5/4 -10/3 5 -5 137/60",
)


def steps_of(points, slopes):
    """Read a rule: parts for points and for slopes, with blanks between."""
    return Steps(parts_of(points), parts_of(slopes))


TWO_BACK = steps_of("-1 0 1", "0 2 0")
LOPSIDED = steps_of("2/3 -1/2 0 -3", "1 -5/4 2 0")
PLAIN = (
    rows.by_slopes(1), rows.by_slopes(2), rows.by_slopes(3), rows.by_slopes(4), TWO_BACK, LOPSIDED,
    steps_of("1/2 -3/2 1", "1/2 0 0"),
)


def lack_by_a_curve(rule, power):
    """Tell what a rule lacks for a power: the power's worth and slope by its row of powers about each place."""
    found = Fraction(0)
    for place, (point, slope) in enumerate(zip(fractions_of(rule.points), fractions_of(rule.slopes))):
        shifted = [Fraction(1)]
        for _ in range(power):
            shifted = [
                (place * shifted[at] if at < len(shifted) else 0) + (shifted[at - 1] if at > 0 else 0)
                for at in range(len(shifted) + 1)
            ]
        found += point * shifted[0] - (slope * shifted[1] if power > 0 else 0)
    return as_part(found)


class StepsTests(unittest.TestCase):
    def test_fields(self):
        rule = Steps([(2, -4), [6, 4]], [(0, 5), (-3, -3)])
        self.assertEqual(rule.points, parts_of("-1/2 3/2"))
        self.assertEqual(rule.slopes, parts_of("0 1"))
        self.assertEqual(rule.shown(), (parts_of("-1/2 3/2"), parts_of("0 1")))
        self.assertTrue(are_tuples(rule.shown()))
        self.assertTrue(are_tuples(rule.points) and are_tuples(rule.slopes))
        self.assertEqual(Steps(rule.points, rule.slopes).shown(), rule.shown())

    def test_wrong_lengths(self):
        for points, slopes in (
            ("", ""), ("1", "1"), ("1 1", "1"), ("1 1", "1 1 1"), ("1", "1 1"), ("1 2 3", ""), ("", "1 2"),
        ):
            with self.assertRaises(BadTable):
                steps_of(points, slopes)

    def test_the_newest_points_part_is_not_nought(self):
        for points in ("1 0", "0 0", "1 -1 0"):
            with self.assertRaises(BadTable):
                steps_of(points, points)
        self.assertEqual(steps_of("0 1", "0 0").points, parts_of("0 1"))

    def test_parts_by_nought(self):
        for points, slopes in (([(1, 0), (1, 1)], [(1, 1)] * 2), ([(1, 1)] * 2, [(1, 1), (0, 0)])):
            with self.assertRaises(BadPart):
                Steps(points, slopes)
        # Parts come first, then lengths.
        with self.assertRaises(BadPart):
            Steps([(1, 0)], [])

    def test_lists_stay(self):
        points, slopes = [[2, -4], [6, 4]], [(0, 5), (-3, -3)]
        before = copy.deepcopy((points, slopes))
        Steps(points, slopes)
        self.assertEqual((points, slopes), before)

    def test_is_plain(self):
        for count in range(1, 6):
            self.assertTrue(rows.by_slopes(count).is_plain())
            self.assertFalse(rows.by_slopes_and_newest(count).is_plain())
            self.assertFalse(rows.by_points(count).is_plain())
        self.assertTrue(TWO_BACK.is_plain())


class LackTests(unittest.TestCase):
    def test_by_hand(self):
        self.assertEqual([TWO_BACK.lack(power) for power in range(5)], list(parts_of("0 0 0 2 8")))
        rule = steps_of("-1 1", "1/2 1/2")
        self.assertEqual([rule.lack(power) for power in range(4)], list(parts_of("0 0 0 -1/2")))
        self.assertEqual(steps_of("2 1", "5 1").lack(0), (3, 1))
        self.assertEqual(steps_of("2 1", "5 1").lack(1), (-5, 1))

    def test_against_another_way(self):
        for rule in PLAIN + (rows.by_points(3), rows.by_slopes_and_newest(4), steps_of("1 1/2 3", "-1 2 1/7")):
            for power in range(9):
                self.assertEqual(rule.lack(power), lack_by_a_curve(rule, power))

    def test_a_step_lacks_just_that(self):
        # The first letter is the time, the second a power of it: points on the curve, then the rule's next.
        for rule in PLAIN:
            back = len(rule.points) - 1
            for power in range(1, 7):
                if rule.lack(0)[0] != 0 or rule.lack(1)[0] != 0:
                    continue
                field = field_of("1*0.0", f"{power}*{power - 1}.0")
                points = [((at, 1), as_part(at ** power)) for at in range(back)]
                there = rule.next_point(field, points, (1, 1))
                self.assertEqual(there[0], (back, 1))
                due = back ** power - Fraction(*rule.lack(power)) / Fraction(*rule.points[-1])
                self.assertEqual(there[1], as_part(due))

    def test_below_nought(self):
        for power in (-1, -4):
            with self.assertRaises(BadSize):
                TWO_BACK.lack(power)

    def test_orders(self):
        for rule, due in (
            (TWO_BACK, 2), (steps_of("2 1", "5 1"), -1), (steps_of("-1 1", "0 0"), 0), (steps_of("-1 1", "0 1"), 1),
            (steps_of("-1 0 1", "1/3 4/3 1/3"), 4), (steps_of("-1 0 0 0 1", "0 8/3 -4/3 8/3 0"), 4),
            (steps_of("0 1", "0 0"), -1),
        ):
            self.assertEqual(rule.order(10), due)
            for most in range(0, 6):
                self.assertEqual(rule.order(most), min(most, due))

    def test_an_order_up_to_less_than_nought(self):
        for most in (-1, -9):
            with self.assertRaises(BadSize):
                TWO_BACK.order(most)


class SteadyTests(unittest.TestCase):
    def test_products_of_known_roots(self):
        for points, due in (
            ("-1 1", True),                     # one alone
            ("1 -1", True),
            ("1 -2 1", False),                  # one twice
            ("1/2 -3/2 1", True),               # and one half
            ("-1/2 -1/2 1", True),              # and less one half
            ("-1 0 1", False),                  # and less one
            ("2 -3 1", False),                  # and two
            ("-3 2 1", False),                  # and less three
            ("-1 1 -1 1", False),               # and a quarter's turn
            ("-1/2 1/2 -1 1", True),            # and two turned ones within
            ("-2 2 -1 1", False),               # and two turned ones outside
            ("0 -1 1", True),                   # and nought
            ("0 0 0 -1 1", True),
            ("0 1", False),                     # nought alone: one is no root
            ("1/2 1", False),
            ("-1/2 1", False),
            ("-1 3 -3 1", False),               # one three times
            ("-99/100 -1/100 1", True),         # and just less than one
            ("-101/100 1/100 1", False),        # and just more
            ("1/2 -5/4 1/2 1/4", False),        # one twice and less one half and so on
        ):
            self.assertEqual(steps_of(points, points).is_steady(), due, points)
            self.assertEqual(steps_of(points, " ".join(["0"] * len(points.split()))).is_steady(), due, points)

    def test_rules_by_slopes_are_steady(self):
        for count in range(1, 6):
            self.assertTrue(rows.by_slopes(count).is_steady())
            self.assertTrue(rows.by_slopes_and_newest(count).is_steady())

    def test_rules_by_points_are_steady_up_to_six(self):
        for count in range(1, 7):
            self.assertTrue(rows.by_points(count).is_steady())
        self.assertFalse(rows.by_points(7).is_steady())
        self.assertFalse(rows.by_points(8).is_steady())

    def test_rules_by_two_steps_back_have_a_root_on_the_circle(self):
        for last in (1, 2):
            self.assertFalse(rows.by_areas(2, last, 2).is_steady())

    def test_what_steady_rules_make_of_an_error_stays_small(self):
        for rule in PLAIN:
            most = max(abs(one) for one in fractions_of(rows.greatest_growth(rule, 40)))
            if rule.is_steady():
                self.assertLess(most, 4)


class MadeTests(unittest.TestCase):
    def test_by_slopes(self):
        for count, slopes in enumerate(BY_SLOPES, 1):
            rule = rows.by_slopes(count)
            self.assertEqual(rule.slopes, parts_of(slopes))
            self.assertEqual(rule.points, parts_of("0 " * (count - 1) + "-1 1"))
            self.assertEqual(rule.order(12), count)

    def test_by_slopes_and_newest(self):
        for count, slopes in enumerate(BY_SLOPES_AND_NEWEST, 1):
            rule = rows.by_slopes_and_newest(count)
            self.assertEqual(rule.slopes, parts_of(slopes))
            self.assertEqual(rule.points, parts_of("0 " * (count - 1) + "-1 1"))
            self.assertEqual(rule.order(12), count + 1)

    def test_by_points(self):
        for count, points in enumerate(BY_POINTS, 1):
            rule = rows.by_points(count)
            self.assertEqual(rule.points, parts_of(points))
            self.assertEqual(rule.slopes, parts_of("0 " * count + "1"))
            self.assertEqual(rule.order(12), count)

    def test_by_areas(self):
        for told, points, slopes, order in (
            ((1, 0, 1), "-1 1", "1 0", 1),
            ((1, 1, 1), "-1 1", "1/2 1/2", 2),
            ((2, 1, 2), "-1 0 1", "0 2 0", 2),
            ((2, 0, 1), "0 -1 1", "1 0 0", 1),
            ((2, 0, 2), "-1 0 1", "2 0 0", 1),
            ((2, 2, 2), "-1 0 1", "1/3 4/3 1/3", 4),
            ((4, 3, 4), "-1 0 0 0 1", "0 8/3 -4/3 8/3 0", 4),
            ((3, 3, 3), "-1 0 0 1", "3/8 9/8 9/8 3/8", 4),
            ((3, 1, 1), "0 0 -1 1", "-3/2 5/2 0 0", 2),
        ):
            rule = rows.by_areas(*told)
            self.assertEqual(rule.shown(), (parts_of(points), parts_of(slopes)), told)
            self.assertEqual(rule.order(9), order, told)

    def test_a_rule_of_areas_is_exact_for_as_many_powers_as_it_asks_slopes(self):
        for count in range(1, 6):
            for last in range(count + 1):
                for steps_back in range(1, count + 1):
                    self.assertGreaterEqual(rows.by_areas(count, last, steps_back).order(8), last + 1)

    def test_below_one(self):
        for count in (0, -1, -5):
            for deed in (
                rows.by_slopes, rows.by_slopes_and_newest, rows.by_points, lambda one: rows.by_areas(one, 1, 1),
            ):
                with self.assertRaises(BadSize):
                    deed(count)


class NextPointTests(unittest.TestCase):
    def test_by_hand(self):
        self.assertEqual(TWO_BACK.next_point(SQUARING, [parts_of("1"), parts_of("2")], (1, 2)), parts_of("5"))
        rule = rows.by_slopes(2)
        found = rule.next_point(TURNING, (parts_of("1 0"), parts_of("0 1")), (2, 1))
        self.assertEqual(found, parts_of("-3 0"))
        self.assertTrue(are_tuples(found))

    def test_the_parts_put_in_come_out_alike(self):
        for rule in PLAIN:
            for field, point in MOTIONS:
                for length in ((1, 2), (-2, 3), (0, 1)):
                    points = list(steps(EULER, field, point, (1, 5), len(rule.points) - 2))
                    self.assertEqual(len(points), len(rule.points) - 1)
                    whole = points + [rule.next_point(field, [list(one) for one in points], length)]
                    for letter in range(field.size()):
                        mine = sum(
                            Fraction(*part) * Fraction(*one[letter]) for part, one in zip(rule.points, whole)
                        )
                        its = sum(
                            Fraction(*part) * Fraction(*field.at(one)[letter])
                            for part, one in zip(rule.slopes, whole)
                        )
                        self.assertEqual(mine, its * Fraction(*length))

    def test_one_point_back_is_a_stage(self):
        for field, point in MOTIONS:
            for length in ((1, 2), (-2, 3)):
                found = rows.by_slopes(1).next_point(field, [point], length)
                self.assertEqual(found, step(EULER, field, point, length))

    def test_a_rule_times_a_part_steps_alike(self):
        twice = steps_of("0 -2 2", "-1 3 0")
        turned = steps_of("0 1/3 -1/3", "1/6 -1/2 0")
        points = [parts_of("1/2 3/4"), parts_of("1/3 1")]
        due = rows.by_slopes(2).next_point(HUNTING, points, (1, 7))
        self.assertEqual(twice.next_point(HUNTING, points, (1, 7)), due)
        self.assertEqual(turned.next_point(HUNTING, points, (1, 7)), due)

    def test_another_count_of_points(self):
        for points in ([], [parts_of("1")], [parts_of("1")] * 3):
            with self.assertRaises(BadField):
                TWO_BACK.next_point(GROWING, points, (1, 2))

    def test_a_rule_that_asks_the_newest_slope(self):
        for rule in (rows.by_points(1), rows.by_slopes_and_newest(1)):
            with self.assertRaises(BadField):
                rule.next_point(GROWING, [parts_of("1")], (1, 2))

    def test_points_of_another_length(self):
        for point in ((), parts_of("1 2")):
            with self.assertRaises(BadField):
                rows.by_slopes(1).next_point(GROWING, [point], (1, 2))

    def test_what_is_handed_in_stays(self):
        points = [[(1, 2), (3, 4)], [(1, 3), (1, 1)]]
        before = copy.deepcopy(points)
        rows.by_slopes(2).next_point(HUNTING, points, (1, 7))
        rows.walked(rows.by_slopes(2), HUNTING, points, (1, 7), 2)
        with self.assertRaises(BadField):
            rows.by_points(2).next_point(HUNTING, points, (1, 7))
        self.assertEqual(points, before)


class WalkedTests(unittest.TestCase):
    def test_points_behind_each_other(self):
        for rule in PLAIN:
            for field, point in ((TURNING, parts_of("1 0")), (HUNTING, parts_of("1/2 3/4"))):
                back = len(rule.points) - 1
                due = list(steps(EULER, field, point, (1, 5), back - 1))
                found = rows.walked(rule, field, [list(one) for one in due], (1, 5), 3)
                for _ in range(3):
                    due.append(rule.next_point(field, due[-back:], (1, 5)))
                self.assertEqual(found, tuple(due))
                self.assertTrue(are_tuples(found))

    def test_none_more(self):
        points = [parts_of("1"), parts_of("2")]
        found = rows.walked(TWO_BACK, GROWING, [list(one) for one in points], (1, 2), 0)
        self.assertEqual(found, tuple(points))
        self.assertTrue(are_tuples(found))

    def test_it_goes_on_from_what_it_told(self):
        points = [parts_of("1/2 -1/3"), parts_of("1/2 0")]
        whole = rows.walked(TWO_BACK, STEEP, points, (1, 4), 2)
        self.assertEqual(rows.walked(TWO_BACK, STEEP, whole[1:3], (1, 4), 1), whole[1:])

    def test_one_back_is_steps_of_the_plain_rule(self):
        for field, point in MOTIONS:
            found = rows.walked(rows.by_slopes(1), field, [point], (1, 3), 3)
            self.assertEqual(found, steps(EULER, field, point, (1, 3), 3))

    def test_refused(self):
        points = [parts_of("1"), parts_of("2")]
        for count in (-1, -2):
            with self.assertRaises(BadSize):
                rows.walked(TWO_BACK, GROWING, points, (1, 2), count)
        with self.assertRaises(BadField):
            rows.walked(rows.by_points(2), GROWING, points, (1, 2), 1)
        for few in ([], points[:1]):
            with self.assertRaises(BadField):
                rows.walked(TWO_BACK, GROWING, few, (1, 2), 1)
        with self.assertRaises(StepFault):
            rows.walked(TWO_BACK, GROWING, [parts_of("1 1"), parts_of("2 1")], (1, 2), 1)


class TwoRulesTests(unittest.TestCase):
    def test_same_but_for_a_part(self):
        for rule in PLAIN + (rows.by_points(3),):
            for by in ("1", "2", "-1", "-3/7", "1/2"):
                other = Steps(
                    [as_part(one * Fraction(by)) for one in fractions_of(rule.points)],
                    [as_part(one * Fraction(by)) for one in fractions_of(rule.slopes)],
                )
                self.assertTrue(rows.same_rule(rule, other))
                self.assertTrue(rows.same_rule(other, rule))

    def test_not_the_same(self):
        for one, other in (
            (steps_of("-1 1", "1 0"), steps_of("-1 1", "0 1")),
            (steps_of("-1 1", "1 0"), steps_of("-2 2", "1 0")),
            (steps_of("-1 1", "1 0"), steps_of("-1 2", "1 0")),
            (steps_of("-1 1", "1 0"), steps_of("1 1", "-1 0")),
            (steps_of("-1 1", "1 0"), steps_of("0 -1 1", "0 1 0")),
            (steps_of("-1 1", "1 0"), steps_of("-2 2", "3 0")),
            (steps_of("-1 1", "1 0"), steps_of("-1 1", "0 0")),
        ):
            self.assertFalse(rows.same_rule(one, other))
            self.assertFalse(rows.same_rule(other, one))

    def test_midst(self):
        found = rows.midst(rows.by_slopes(1), rows.by_points(1))
        self.assertEqual(found.shown(), (parts_of("-1 1"), parts_of("1/2 1/2")))
        found = rows.midst(steps_of("1 -2 3", "0 1/2 1"), steps_of("-1/3 2 1", "4 0 -1"))
        self.assertEqual(found.shown(), (parts_of("1/3 0 2"), parts_of("2 1/4 0")))
        self.assertEqual(rows.midst(TWO_BACK, TWO_BACK).shown(), TWO_BACK.shown())

    def test_midst_refused(self):
        with self.assertRaises(BadTable):
            rows.midst(rows.by_slopes(1), rows.by_slopes(2))
        with self.assertRaises(BadTable):
            rows.midst(steps_of("2 3 1", "1 0 0"), steps_of("-1 1", "1 0"))
        # The newest point's part is nought then.
        with self.assertRaises(BadTable):
            rows.midst(steps_of("-1 1", "1 0"), steps_of("1 -1", "1 0"))


class GrowthTests(unittest.TestCase):
    def test_by_hand(self):
        for points, count, due in (
            ("-1 1", 3, "1 1 1 1"),
            ("1 -2 1", 4, "0 1 2 3 4 5"),
            ("2 -3 1", 4, "0 1 3 7 15 31"),
            ("1/2 -3/2 1", 3, "0 1 3/2 7/4 15/8"),
            ("-1 0 1", 4, "0 1 0 1 0 1"),
            ("-4 0 0 2", 4, "0 0 1 0 0 2 0"),
            ("-2 0 1", 0, "0 1"),
            ("3 2", 2, "1 -3/2 9/4"),
        ):
            found = rows.greatest_growth(steps_of(points, points), count)
            self.assertEqual(found, parts_of(due))
            self.assertTrue(are_tuples(found))

    def test_slopes_are_not_asked(self):
        self.assertEqual(
            rows.greatest_growth(steps_of("2 -3 1", "5 5 5"), 5), rows.greatest_growth(steps_of("2 -3 1", "0 0 0"), 5),
        )

    def test_below_nought(self):
        for count in (-1, -3):
            with self.assertRaises(BadSize):
                rows.greatest_growth(TWO_BACK, count)


if __name__ == "__main__":
    unittest.main()
