"""Tests of stepwright.curves: point 6, and point 1 as far as it concerns curves."""

import copy
import itertools
import unittest
from fractions import Fraction

from stepwright import curves
from stepwright.errors import BadPart, BadSize, StepFault
from tests.known import are_tuples, as_part, parts_of

ONE = ((1, 1),)
LETTER = ((0, 1), (1, 1))
SOME = tuple(parts_of(text) for text in (
    "", "1", "-2/3", "0 1", "1 1", "-1 2", "1/2 0 3", "0 0 0 -5/7", "1 -2 1", "-6 11 -6 1", "2 0 0 0 1/3", "1 1 1 1 1",
))
AT = ((0, 1), (1, 1), (-1, 1), (1, 2), (-7, 3), (5, 1))


def worth_by_powers(one, at):
    return sum((Fraction(*part) * Fraction(*at) ** power for power, part in enumerate(one)), Fraction(0))


def of_roots(*roots):
    """Make the polynomial of roots, its highest part one."""
    found = ONE
    for root in roots:
        found = curves.multiplied(found, (as_part(-Fraction(root)), (1, 1)))
    return found


class CurveTests(unittest.TestCase):
    def assertCurve(self, found):
        """See that a polynomial is a tuple of parts made small, without noughts at the end."""
        self.assertTrue(are_tuples(found))
        self.assertEqual(found, tuple(as_part(Fraction(*one)) for one in found))
        self.assertTrue(found == () or found[-1] != (0, 1), found)


class MakingTests(CurveTests):
    def test_noughts_at_the_end_are_left_out(self):
        self.assertEqual(curves.curve([(1, 1), (0, 1), (2, 1), (0, 1), (0, 3)]), ((1, 1), (0, 1), (2, 1)))
        self.assertEqual(curves.curve([(0, 1), (1, 2)]), ((0, 1), (1, 2)))
        for bare in ((), [], [(0, 1)], ((0, 1), (0, 2), (0, -5))):
            self.assertEqual(curves.curve(bare), ())

    def test_parts_are_made_small(self):
        for kind in (list, tuple):
            self.assertEqual(curves.curve(kind([(2, -4), (0, 7), (6, 3)])), ((-1, 2), (0, 1), (2, 1)))
        with self.assertRaises(BadPart):
            curves.curve([(1, 1), (1, 0)])

    def test_what_is_handed_in_stays(self):
        row = [(2, 4), (0, 1)]
        curves.curve(row)
        self.assertEqual(row, [(2, 4), (0, 1)])

    def test_power_of(self):
        self.assertEqual(curves.power_of(()), -1)
        self.assertEqual(curves.power_of(ONE), 0)
        for one in SOME:
            self.assertEqual(curves.power_of(one), len(one) - 1)

    def test_powers(self):
        self.assertEqual(curves.powers(0), ONE)
        self.assertEqual(curves.powers(1), LETTER)
        for count in range(0, 12):
            found = curves.powers(count)
            self.assertCurve(found)
            self.assertEqual(found, curves.curve([(0, 1)] * count + [(1, 1)]))

    def test_powers_below_nought_are_refused(self):
        for count in (-1, -6):
            with self.assertRaises(BadSize):
                curves.powers(count)

    def test_the_errors_are_step_faults(self):
        with self.assertRaises(StepFault):
            curves.divided(ONE, ())


class ReckoningTests(CurveTests):
    def test_worth(self):
        for one, at in itertools.product(SOME, AT):
            self.assertEqual(curves.worth(one, at), as_part(worth_by_powers(one, at)))
        self.assertEqual(curves.worth((), (7, 3)), (0, 1))
        self.assertEqual(curves.worth(list(SOME[9]), (2, 1)), (0, 1))

    def test_sums_differences_and_products(self):
        for one, other in itertools.product(SOME, SOME):
            for deed, due in (
                (curves.added, lambda a, b: a + b),
                (curves.taken, lambda a, b: a - b),
                (curves.multiplied, lambda a, b: a * b),
            ):
                found = deed(one, other)
                self.assertCurve(found)
                for at in AT:
                    mine, its = worth_by_powers(one, at), worth_by_powers(other, at)
                    self.assertEqual(worth_by_powers(found, at), due(mine, its))
                self.assertEqual(deed(list(one), list(other)), found)

    def test_noughts_at_the_end_of_sums_are_left_out(self):
        self.assertEqual(curves.added(((1, 1), (2, 1)), ((3, 1), (-2, 1))), ((4, 1),))
        self.assertEqual(curves.taken(LETTER, LETTER), ())
        self.assertEqual(curves.added((), ()), ())
        self.assertEqual(curves.taken((), LETTER), ((0, 1), (-1, 1)))

    def test_products_by_hand(self):
        self.assertEqual(curves.multiplied(((1, 1), (1, 1)), ((-1, 1), (1, 1))), ((-1, 1), (0, 1), (1, 1)))
        self.assertEqual(curves.multiplied((), LETTER), ())
        self.assertEqual(curves.multiplied(LETTER, ()), ())
        for one, other in itertools.product(SOME, SOME):
            power = curves.power_of(curves.multiplied(one, other))
            self.assertEqual(power, len(one) + len(other) - 2 if one and other else -1)

    def test_scaled(self):
        for one, by in itertools.product(SOME, AT):
            found = curves.scaled_curve(one, by)
            self.assertCurve(found)
            self.assertEqual(found, curves.multiplied(one, curves.curve([by])))
        self.assertEqual(curves.scaled_curve(SOME[9], (0, 1)), ())

    def test_parts_by_nought_are_refused(self):
        wrong = ((1, 0),)
        for deed in (curves.added, curves.taken, curves.multiplied):
            with self.assertRaises(BadPart):
                deed(wrong, ONE)
        for deed in (curves.scaled_curve, curves.worth):
            with self.assertRaises(BadPart):
                deed(wrong, (1, 2))

    def test_what_is_handed_in_stays(self):
        one, other = list(SOME[9]), list(SOME[4])
        before = copy.deepcopy((one, other))
        for deed in (
            curves.added, curves.taken, curves.multiplied, curves.divided, curves.put_in, curves.shared_curve,
        ):
            deed(one, other)
        with self.assertRaises(BadPart):
            curves.divided(one, [])
        self.assertEqual((one, other), before)


class DividedTests(CurveTests):
    def test_whole_times_divisor_and_rest_is_the_polynomial(self):
        for one, other in itertools.product(SOME, SOME):
            if other == ():
                continue
            found = curves.divided(one, other)
            self.assertIs(type(found), tuple)
            whole, rest = found
            self.assertCurve(whole)
            self.assertCurve(rest)
            self.assertLess(len(rest), len(other))
            self.assertEqual(curves.added(curves.multiplied(whole, other), rest), one)
            self.assertEqual(curves.divided(list(one), list(other)), found)

    def test_by_hand(self):
        self.assertEqual(curves.divided(parts_of("-6 11 -6 1"), parts_of("-1 1")), (parts_of("6 -5 1"), ()))
        self.assertEqual(curves.divided(parts_of("1 0 0 2"), parts_of("1 4")), (
            parts_of("1/32 -1/8 1/2"), parts_of("31/32"),
        ))
        self.assertEqual(curves.divided(LETTER, parts_of("0 0 3")), ((), LETTER))
        self.assertEqual(curves.divided((), LETTER), ((), ()))

    def test_the_rest_has_no_noughts_at_its_end(self):
        # The rest is a bare number though the divisor leaves room for three parts.
        self.assertEqual(curves.divided(parts_of("5 0 0 1"), parts_of("0 0 0 1")), (ONE, parts_of("5")))

    def test_by_a_bare_one_is_refused(self):
        for one in SOME:
            for bare in ((), []):
                with self.assertRaises(BadPart):
                    curves.divided(one, bare)


class SlopeTests(CurveTests):
    def test_slope(self):
        self.assertEqual(curves.slope(parts_of("7 5 -3/2 1/3")), parts_of("5 -3 1"))
        for bare in ((), ONE, ((-4, 3),)):
            self.assertEqual(curves.slope(bare), ())

    def test_the_areas_slope_is_the_polynomial(self):
        for one in SOME:
            area = curves.area_under(one)
            self.assertCurve(area)
            self.assertEqual(curves.slope(area), one)
            self.assertEqual(curves.worth(area, (0, 1)), (0, 1))
            self.assertCurve(curves.slope(one))
        self.assertEqual(curves.area_under(()), ())
        self.assertEqual(curves.area_under(parts_of("2 3 1")), parts_of("0 2 3/2 1/3"))

    def test_the_slope_of_a_product(self):
        for one, other in itertools.product(SOME, SOME):
            self.assertEqual(
                curves.slope(curves.multiplied(one, other)),
                curves.added(
                    curves.multiplied(curves.slope(one), other), curves.multiplied(one, curves.slope(other))
                ),
            )

    def test_between(self):
        self.assertEqual(curves.between(parts_of("0 0 1"), (0, 1), (1, 1)), (1, 3))
        self.assertEqual(curves.between(parts_of("0 0 1"), (1, 1), (0, 1)), (-1, 3))
        self.assertEqual(curves.between((), (0, 1), (1, 1)), (0, 1))
        for one, low, high in itertools.product(SOME, AT, AT):
            found = curves.between(one, low, high)
            due = sum(
                Fraction(*part) * (Fraction(*high) ** (power + 1) - Fraction(*low) ** (power + 1)) / (power + 1)
                for power, part in enumerate(one)
            )
            self.assertEqual(found, as_part(due))
            self.assertIs(type(found), tuple)


class ThroughTests(CurveTests):
    def test_by_hand(self):
        self.assertEqual(curves.through([]), ())
        self.assertEqual(curves.through(()), ())
        self.assertEqual(curves.through([((5, 1), (7, 2))]), ((7, 2),))
        self.assertEqual(curves.through([((5, 1), (0, 1))]), ())
        self.assertEqual(curves.through([((0, 1), (1, 1)), ((1, 1), (2, 1)), ((2, 1), (5, 1))]), parts_of("1 0 1"))
        self.assertEqual(curves.through([((0, 1), (1, 1)), ((1, 1), (2, 1)), ((2, 1), (3, 1))]), parts_of("1 1"))

    def test_the_polynomial_that_the_points_are_taken_from(self):
        for one in SOME:
            for size in (max(1, len(one)), len(one) + 1, len(one) + 2):
                places = [as_part(Fraction(3 * at - 4, at % 3 + 1)) for at in range(size)]
                points = [(place, curves.worth(one, place)) for place in places]
                self.assertEqual(curves.through(points), one)
                self.assertEqual(curves.through(tuple(points[::-1])), one)

    def test_it_goes_through_its_points_and_is_low(self):
        points = tuple((as_part(Fraction(place)), part) for place, part in zip(
            ("-2", "1/3", "5", "0", "7/2"), ((1, 1), (-4, 9), (2, 1), (2, 1), (0, 1))
        ))
        found = curves.through(points)
        self.assertCurve(found)
        self.assertLess(curves.power_of(found), len(points))
        for place, part in points:
            self.assertEqual(curves.worth(found, place), part)

    def test_a_place_twice_is_refused(self):
        for points in (
            [((1, 1), (2, 1)), ((1, 1), (3, 1))],
            [((1, 1), (2, 1)), ((1, 1), (2, 1))],
            [((1, 1), (0, 1)), ((1, 1), (0, 1))],
            [((0, 1), (0, 1)), ((1, 2), (2, 1)), ((3, 1), (2, 1)), ((1, 2), (2, 1))],
            (((1, 2), (2, 1)), ((2, 4), (2, 1))),
        ):
            with self.subTest(points), self.assertRaises(BadPart):
                curves.through(points)


class PutInTests(CurveTests):
    def test_put_in(self):
        for one, other in itertools.product(SOME, SOME):
            found = curves.put_in(one, other)
            self.assertCurve(found)
            for at in AT[:4]:
                self.assertEqual(worth_by_powers(found, at), worth_by_powers(one, curves.worth(other, at)))
        self.assertEqual(curves.put_in(parts_of("0 0 1"), parts_of("1 1")), parts_of("1 2 1"))

    def test_bare_ones(self):
        self.assertEqual(curves.put_in((), ()), ())
        self.assertEqual(curves.put_in((), LETTER), ())
        self.assertEqual(curves.put_in(parts_of("5 1 2"), ()), parts_of("5"))
        self.assertEqual(curves.put_in(parts_of("0 1 2"), ()), ())

    def test_the_letter_changes_nothing(self):
        for one in SOME:
            self.assertEqual(curves.put_in(one, LETTER), one)
            self.assertEqual(curves.put_in(LETTER, one), one)
            turned = (as_part(0), as_part(-1))
            self.assertEqual(curves.put_in(curves.put_in(one, turned), turned), one)


class SharedTests(CurveTests):
    def test_known_roots_in_common(self):
        one = curves.scaled_curve(of_roots(1, 1, 2, "-1/3"), (7, 2))
        other = curves.scaled_curve(of_roots(1, 2, 2, 5), (-3, 1))
        self.assertEqual(curves.shared_curve(one, other), of_roots(1, 2))
        self.assertEqual(curves.shared_curve(other, one), of_roots(1, 2))
        self.assertEqual(curves.shared_curve(one, of_roots(4)), ONE)
        self.assertEqual(curves.shared_curve(one, one), of_roots(1, 1, 2, "-1/3"))
        self.assertEqual(curves.shared_curve(list(one), list(other)), of_roots(1, 2))

    def test_what_has_no_roots_in_common(self):
        square = parts_of("1 0 1")
        one, other = curves.multiplied(square, of_roots(3)), curves.multiplied(square, of_roots(2, 2))
        self.assertEqual(curves.shared_curve(one, other), square)

    def test_bare_ones(self):
        self.assertEqual(curves.shared_curve((), ()), ())
        self.assertEqual(curves.shared_curve([], []), ())
        self.assertEqual(curves.shared_curve((), parts_of("2 4")), parts_of("1/2 1"))
        self.assertEqual(curves.shared_curve(parts_of("2 4"), ()), parts_of("1/2 1"))
        self.assertEqual(curves.shared_curve(parts_of("-3"), ()), ONE)
        self.assertEqual(curves.shared_curve(parts_of("-3"), parts_of("0 0 1")), ONE)

    def test_it_goes_into_both_and_is_highest(self):
        for one, other, both in itertools.product(SOME[1:], SOME[1:], (ONE, of_roots(1), of_roots(-2, "1/2"))):
            mine, its = curves.multiplied(one, both), curves.multiplied(other, both)
            found = curves.shared_curve(mine, its)
            self.assertCurve(found)
            self.assertEqual(found[-1], (1, 1))
            for product in (mine, its):
                self.assertEqual(curves.divided(product, found)[1], ())
            self.assertEqual(curves.divided(found, both)[1], ())
            rests = [curves.divided(product, found)[0] for product in (mine, its)]
            self.assertEqual(curves.shared_curve(*rests), ONE)


if __name__ == "__main__":
    unittest.main()
