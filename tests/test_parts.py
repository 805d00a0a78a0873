"""Tests of stepwright.parts: point 2, and point 1 as far as it concerns parts."""

import itertools
import math
import unittest
from fractions import Fraction

from stepwright import parts
from stepwright.errors import BadPart, StepFault

LONG = 10 ** 300 + 7
SOME = tuple(parts.part(top, low) for top in range(-4, 5) for low in (1, 2, 3, 6))


def as_part(fraction):
    return (fraction.numerator, fraction.denominator)


class PartTests(unittest.TestCase):
    def test_made_small_with_the_low_above_nought(self):
        for top in range(-12, 13):
            for low in list(range(-12, 0)) + list(range(1, 13)):
                found = parts.part(top, low)
                self.assertIs(type(found), tuple)
                self.assertEqual(found, as_part(Fraction(top, low)))

    def test_edges(self):
        self.assertEqual(parts.part(0, 5), (0, 1))
        self.assertEqual(parts.part(0, -5), (0, 1))
        self.assertEqual(parts.part(6, -4), (-3, 2))
        self.assertEqual(parts.part(-6, -4), (3, 2))
        self.assertEqual(parts.part(7, 1), (7, 1))
        self.assertEqual(parts.part(7, -1), (-7, 1))

    def test_the_low_may_be_left_out(self):
        self.assertEqual(parts.part(0), (0, 1))
        self.assertEqual(parts.part(-9), (-9, 1))
        self.assertEqual(parts.part(4, low=6), (2, 3))
        self.assertEqual(parts.part(top=4), (4, 1))

    def test_a_low_of_nought_is_refused(self):
        for top in (0, 1, -1, LONG):
            with self.assertRaises(BadPart):
                parts.part(top, 0)

    def test_numbers_of_many_digits(self):
        self.assertEqual(parts.part(LONG * 6, LONG * -4), (-3, 2))
        self.assertEqual(parts.part(LONG, LONG + 1), (LONG, LONG + 1))
        self.assertEqual(parts.plus((LONG, 1), (1, LONG)), (LONG * LONG + 1, LONG))

    def test_shared(self):
        self.assertEqual(parts.shared(0, 0), 0)
        self.assertEqual(parts.shared(0, 7), 7)
        self.assertEqual(parts.shared(-7, 0), 7)
        for one in range(-12, 13):
            for other in range(-12, 13):
                self.assertEqual(parts.shared(one, other), math.gcd(one, other))
        self.assertEqual(parts.shared(LONG * 4, LONG * 6), LONG * 2)

    def test_the_errors_are_step_faults(self):
        with self.assertRaises(StepFault):
            parts.part(1, 0)


class ReckoningTests(unittest.TestCase):
    def test_sums_differences_and_products(self):
        for one, other in itertools.product(SOME, SOME):
            mine, its = Fraction(*one), Fraction(*other)
            self.assertEqual(parts.plus(one, other), as_part(mine + its))
            self.assertEqual(parts.minus(one, other), as_part(mine - its))
            self.assertEqual(parts.times(one, other), as_part(mine * its))
            self.assertIs(parts.is_less(one, other), mine < its)

    def test_shares(self):
        for one, other in itertools.product(SOME, SOME):
            if other[0] == 0:
                with self.assertRaises(BadPart):
                    parts.over(one, other)
            else:
                self.assertEqual(parts.over(one, other), as_part(Fraction(*one) / Fraction(*other)))

    def test_they_give_tuples(self):
        for deed in (parts.plus, parts.minus, parts.times, parts.over):
            self.assertIs(type(deed((1, 2), (3, 4))), tuple)

    def test_what_they_ask_refuses(self):
        for deed in (parts.plus, parts.minus, parts.times):
            for other in ((1, 1), (1, 2)):
                with self.assertRaises(BadPart):
                    deed((1, 0), other)
        with self.assertRaises(BadPart):
            parts.over((1, 0), (1, 2))

    def test_size(self):
        self.assertEqual(parts.size_of((-3, 4)), (3, 4))
        self.assertEqual(parts.size_of((3, 4)), (3, 4))
        self.assertEqual(parts.size_of((0, 1)), (0, 1))
        self.assertEqual(parts.size_of((-LONG, 3)), (LONG, 3))
        self.assertIs(type(parts.size_of((-3, 4))), tuple)

    def test_less_tells_true_or_false(self):
        self.assertIs(parts.is_less((1, 3), (1, 2)), True)
        self.assertIs(parts.is_less((1, 2), (1, 2)), False)
        self.assertIs(parts.is_less((-1, 2), (-1, 3)), True)
        self.assertIs(parts.is_less((0, 1), (-1, 9)), False)

    def test_totals(self):
        self.assertEqual(parts.total([]), (0, 1))
        self.assertEqual(parts.total(()), (0, 1))
        self.assertEqual(parts.total([(1, 2), (1, 3), (1, 6)]), (1, 1))
        self.assertEqual(parts.total(((1, 2), (-1, 2))), (0, 1))
        self.assertIs(type(parts.total([(1, 2)])), tuple)
        with self.assertRaises(BadPart):
            parts.total([(1, 2), (1, 0)])

    def test_products(self):
        self.assertEqual(parts.product([]), (1, 1))
        self.assertEqual(parts.product(()), (1, 1))
        self.assertEqual(parts.product([(1, 2), (2, 3), (-3, 4)]), (-1, 4))
        self.assertEqual(parts.product(((1, 2), (0, 1))), (0, 1))
        self.assertIs(type(parts.product([(1, 2)])), tuple)
        with self.assertRaises(BadPart):
            parts.product(((1, 0),))

    def test_raised(self):
        self.assertEqual(parts.raised((2, 3), 0), (1, 1))
        self.assertEqual(parts.raised((0, 1), 0), (1, 1))
        self.assertEqual(parts.raised((0, 1), 3), (0, 1))
        self.assertEqual(parts.raised((-2, 3), 1), (-2, 3))
        self.assertEqual(parts.raised((-2, 3), 5), (-32, 243))
        self.assertEqual(parts.raised((3, 2), 200), (3 ** 200, 2 ** 200))
        self.assertIs(type(parts.raised((2, 3), 4)), tuple)

    def test_raised_below_nought_is_refused(self):
        for one in ((2, 3), (0, 1)):
            for count in (-1, -5):
                with self.assertRaises(BadPart):
                    parts.raised(one, count)

    def test_raised_refuses_what_times_refuses(self):
        with self.assertRaises(BadPart):
            parts.raised((1, 0), 1)


class TextTests(unittest.TestCase):
    def test_told(self):
        self.assertEqual(parts.told((0, 1)), "0")
        self.assertEqual(parts.told((12, 1)), "12")
        self.assertEqual(parts.told((-12, 1)), "-12")
        self.assertEqual(parts.told((1, 2)), "1/2")
        self.assertEqual(parts.told((-5, 3)), "-5/3")
        self.assertEqual(parts.told((LONG, 2)), f"{LONG}/2")

    def test_read(self):
        self.assertEqual(parts.read("0"), (0, 1))
        self.assertEqual(parts.read("-0"), (0, 1))
        self.assertEqual(parts.read("7"), (7, 1))
        self.assertEqual(parts.read("-7"), (-7, 1))
        self.assertEqual(parts.read("007"), (7, 1))
        self.assertEqual(parts.read("6/4"), (3, 2))
        self.assertEqual(parts.read("-6/4"), (-3, 2))
        self.assertEqual(parts.read("-0/4"), (0, 1))
        self.assertEqual(parts.read("3/1"), (3, 1))
        self.assertEqual(parts.read("3/003"), (1, 1))
        self.assertIs(type(parts.read("6/4")), tuple)

    def test_read_twelve_figures_and_not_thirteen(self):
        twelve, thirteen = "9" * 12, "9" * 13
        self.assertEqual(parts.read(twelve), (10 ** 12 - 1, 1))
        self.assertEqual(parts.read("-" + twelve), (1 - 10 ** 12, 1))
        self.assertEqual(parts.read("1/" + twelve), (1, 10 ** 12 - 1))
        for text in (thirteen, "-" + thirteen, "1/" + thirteen, thirteen + "/1", "0" * 13):
            with self.subTest(text), self.assertRaises(BadPart):
                parts.read(text)

    def test_read_refuses(self):
        wrong = (
            "", "-", "--1", "+1", "/", "-/", "1/", "/2", "-/2", "1//2", "1/2/3", "1/-2", "1/+2",
            " 1", "1 ", "1 /2", "1/ 2", "1.5", "1,5", "1e3", "1_0", "x", "1/x", "x/1", "1-", "-1-",
            "\u0661", "\u00b2", "1/\uff11", "1\n", "\n",
        )
        for text in wrong:
            with self.subTest(text), self.assertRaises(BadPart):
                parts.read(text)

    def test_read_refuses_a_low_of_nought(self):
        for text in ("1/0", "0/0", "-1/0", "1/000"):
            with self.subTest(text), self.assertRaises(BadPart):
                parts.read(text)

    def test_told_is_read_again(self):
        for one in SOME:
            self.assertEqual(parts.read(parts.told(one)), one)

    def test_is_number(self):
        for text in ("0", "7", "00", "123456789012"):
            self.assertIs(parts.is_number(text), True)
        for text in ("", "1234567890123", "-1", "+1", "1a", "a1", "1 ", " 1", "1.0", "1a2", "\u00b2", "\u0661"):
            with self.subTest(text):
                self.assertIs(parts.is_number(text), False)


class RowTests(unittest.TestCase):
    def test_scaled(self):
        self.assertEqual(parts.scaled([(1, 2), (-4, 3)], (3, 2)), ((3, 4), (-2, 1)))
        self.assertEqual(parts.scaled((), (3, 2)), ())
        self.assertEqual(parts.scaled(((1, 2),), (0, 1)), ((0, 1),))
        with self.assertRaises(BadPart):
            parts.scaled([(1, 2)], (1, 0))

    def test_rows_added(self):
        self.assertEqual(parts.rows_added([(1, 2), (1, 3)], ((1, 2), (-1, 3))), ((1, 1), (0, 1)))
        self.assertEqual(parts.rows_added([], ()), ())

    def test_dot(self):
        self.assertEqual(parts.dot([(1, 2), (1, 3)], ((4, 1), (-3, 2))), (3, 2))
        self.assertEqual(parts.dot([], ()), (0, 1))

    def test_unlike_lengths_are_refused(self):
        for one, other in (([], [(1, 1)]), ([(1, 1)], ()), (((1, 1), (2, 1)), [(1, 1)])):
            with self.assertRaises(BadPart):
                parts.rows_added(one, other)
            with self.assertRaises(BadPart):
                parts.dot(one, other)

    def test_what_they_ask_refuses(self):
        with self.assertRaises(BadPart):
            parts.rows_added([(1, 0)], [(1, 1)])
        with self.assertRaises(BadPart):
            parts.dot([(1, 0)], [(1, 1)])

    def test_lists_and_tuples_give_the_same_tuples(self):
        row = [(1, 2), (2, 3), (-1, 1)]
        for kind in (list, tuple):
            self.assertEqual(parts.scaled(kind(row), (1, 2)), ((1, 4), (1, 3), (-1, 2)))
            self.assertEqual(parts.rows_added(kind(row), kind(row)), ((1, 1), (4, 3), (-2, 1)))
            self.assertEqual(parts.dot(kind(row), kind(row)), (61, 36))
            self.assertEqual(parts.total(kind(row)), (1, 6))
            self.assertEqual(parts.product(kind(row)), (-1, 3))
        for found in (parts.scaled(row, (1, 2)), parts.rows_added(row, row)):
            self.assertIs(type(found), tuple)
            self.assertTrue(all(type(one) is tuple for one in found))
        self.assertIs(type(parts.dot(row, row)), tuple)

    def test_what_is_handed_in_stays(self):
        row, other = [(1, 2), (2, 3)], [(1, 1)]
        parts.scaled(row, (1, 2))
        parts.total(row)
        parts.product(row)
        for deed in (parts.rows_added, parts.dot):
            deed(row, row)
            with self.assertRaises(BadPart):
                deed(row, other)
        self.assertEqual((row, other), ([(1, 2), (2, 3)], [(1, 1)]))


class GreatestTests(unittest.TestCase):
    def test_greatest(self):
        for row, due in (
            ((), (0, 1)), (((1, 2), (2, 3), (1, 3)), (2, 3)), (((-1, 2), (-3, 1)), (0, 1)), (((5, 1), (-9, 1)), (5, 1)),
            (((3, 7), (3, 7)), (3, 7)),
        ):
            self.assertEqual(parts.greatest(row), due)
            self.assertEqual(parts.greatest(list(row)), due)

    def test_greatest_pair(self):
        for pairs, due in (
            ((), None), ((("x", (0, 1)),), ("x", (0, 1))), ((("x", (0, 1)), ("y", (0, 1))), ("x", (0, 1))),
            ((("x", (1, 2)), ("y", (-2, 3)), ("z", (2, 3))), ("y", (-2, 3))),
            ((("x", (-1, 2)), ("y", (1, 3))), ("x", (-1, 2))),
        ):
            self.assertEqual(parts.greatest_pair(pairs), due)
            self.assertEqual(parts.greatest_pair(list(pairs)), due)


if __name__ == "__main__":
    unittest.main()
