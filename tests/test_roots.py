"""Tests of stepwright.roots: point 7, and point 1 as far as it concerns roots."""

import copy
import itertools
import unittest
from fractions import Fraction

from stepwright import roots
from stepwright.curves import curve, divided, multiplied, scaled_curve, shared_curve, slope, worth
from stepwright.errors import BadPart, BadSize, StepFault
from tests.known import are_tuples, as_part, parts_of

NO_ROOTS = (parts_of("1"), parts_of("1 0 1"), parts_of("-3 -1 -2"))
ROOT_ROWS = (
    (),
    ("0",),
    ("1", "2"),
    ("-1", "-1", "3/2"),
    ("1/3", "1/2", "1/2", "1/2", "4"),
    ("-5", "-5", "0", "0", "0", "7/3"),
    ("1/100", "1/101", "-1/100"),
)


def of_roots(*found):
    one = ((1, 1),)
    for root in found:
        one = multiplied(one, (as_part(-Fraction(root)), (1, 1)))
    return one


def of_pair(middle, square):
    """Make the polynomial of two roots that aren't on the line: their middle, and how far they are squared."""
    return parts_of(f"{Fraction(middle) ** 2 + Fraction(square)} {-2 * Fraction(middle)} 1")


# (polynomial, its roots, each once, rising)
MADE = tuple(
    (scaled_curve(multiplied(of_roots(*row), rest), by), sorted(set(map(Fraction, row))))
    for row in ROOT_ROWS for rest in NO_ROOTS for by in ((1, 1), (-5, 7))
)


def ends_of(found):
    """Tell places on the roots, between them, and past them."""
    places = sorted(set(found) | {Fraction(-9), Fraction(9)})
    return places + [(low + high) / 2 for low, high in zip(places, places[1:])]


class RestTests(unittest.TestCase):
    def test_by_hand(self):
        one = parts_of("-1 0 1")
        self.assertEqual(roots.rests(one), (one, parts_of("0 2"), parts_of("1")))
        self.assertEqual(roots.rests(parts_of("1 0 1")), (parts_of("1 0 1"), parts_of("0 2"), parts_of("-1")))
        self.assertEqual(roots.rests(parts_of("0 -1 0 1"))[2:], (parts_of("0 2/3"), parts_of("1")))

    def test_bare_ones_are_left_out(self):
        self.assertEqual(roots.rests(()), ())
        self.assertEqual(roots.rests([]), ())
        self.assertEqual(roots.rests(parts_of("-4")), (parts_of("-4"),))
        self.assertEqual(roots.rests(parts_of("3 2")), (parts_of("3 2"), parts_of("2")))
        # A root twice: the last rest that isn't bare goes into both.
        self.assertEqual(roots.rests(of_roots(1, 1)), (of_roots(1, 1), parts_of("-2 2")))

    def test_each_is_the_rest_of_the_last_two_turned_about(self):
        for one, found in MADE:
            row = roots.rests(list(one))
            self.assertTrue(are_tuples(row))
            self.assertEqual(row[:2], tuple(part for part in (one, slope(one)) if part != ()))
            for two, last, rest in zip(row, row[1:], row[2:]):
                self.assertEqual(rest, scaled_curve(divided(two, last)[1], (-1, 1)))
            if len(row) > 1:
                self.assertEqual(divided(row[-2], row[-1])[1], ())
            self.assertNotIn((), row)

    def test_changes(self):
        row = (parts_of("-1 0 1"), parts_of("0 2"), parts_of("1"))
        self.assertEqual([roots.changes(row, as_part(at)) for at in ("-2", "-1", "0", "1", "2")], [2, 1, 1, 0, 0])
        self.assertEqual(roots.changes((), (1, 1)), 0)
        self.assertEqual(roots.changes([()], (1, 1)), 0)

    def test_noughts_are_left_out_of_changes(self):
        def changes(*signs):
            return roots.changes([curve([(sign, 1)]) for sign in signs], (3, 1))

        self.assertEqual(changes(1, 0, -1), 1)
        self.assertEqual(changes(1, 0, 1), 0)
        self.assertEqual(changes(0, 0, -1, 0), 0)
        self.assertEqual(changes(1, -1, 0, 0, -1, 1, 0), 2)

    def test_plain(self):
        for one, found in MADE:
            each_once = roots.plain(one)
            self.assertTrue(are_tuples(each_once))
            self.assertEqual(divided(one, each_once)[1], ())
            self.assertEqual(shared_curve(each_once, slope(each_once)), ((1, 1),))
            for root in found:
                self.assertEqual(worth(each_once, as_part(root)), (0, 1))
        self.assertEqual(roots.plain(scaled_curve(of_roots(1, 1, 2), (5, 1))), scaled_curve(of_roots(1, 2), (5, 1)))
        self.assertEqual(roots.plain(of_pair(1, 2)), of_pair(1, 2))
        self.assertEqual(roots.plain(parts_of("7")), parts_of("7"))

    def test_bare_ones_are_refused(self):
        for bare in ((), []):
            for deed in (
                roots.plain,
                roots.bound,
                roots.all_of,
                roots.apart,
                roots.inside_circle,
                lambda one: roots.how_many(one, (0, 1), (1, 1)),
                lambda one: roots.narrowed(one, (0, 1), (1, 1), 2),
                lambda one: roots.split(one, (0, 1), (1, 1)),
                lambda one: roots.samples(one, (0, 1), (1, 1)),
            ):
                with self.assertRaises(BadSize):
                    deed(bare)

    def test_the_errors_are_step_faults(self):
        with self.assertRaises(StepFault):
            roots.plain(())


class CountTests(unittest.TestCase):
    def test_how_many_between_parts_that_may_be_roots_themselves(self):
        for one, found in MADE:
            for low, high in itertools.combinations_with_replacement(sorted(ends_of(found)), 2):
                due = sum(low < root <= high for root in found)
                self.assertEqual(roots.how_many(one, as_part(low), as_part(high)), due)

    def test_the_low_is_left_out_and_the_high_is_not(self):
        one = of_roots(1, 1, 2)
        self.assertEqual(roots.how_many(one, (1, 1), (2, 1)), 1)
        self.assertEqual(roots.how_many(one, (0, 1), (1, 1)), 1)
        self.assertEqual(roots.how_many(one, (1, 1), (1, 1)), 0)
        self.assertEqual(roots.how_many(list(one), (0, 1), (2, 1)), 2)

    def test_roots_that_are_no_parts(self):
        one = parts_of("-2 0 1")
        self.assertEqual(roots.how_many(one, (0, 1), (3, 2)), 1)
        self.assertEqual(roots.how_many(one, (-3, 2), (3, 2)), 2)
        self.assertEqual(roots.how_many(one, (0, 1), (7, 5)), 0)
        self.assertEqual(roots.how_many(one, (0, 1), (17, 12)), 1)

    def test_high_below_low_is_refused(self):
        for deed in (roots.how_many, roots.split, roots.samples, roots.never_below):
            with self.assertRaises(BadSize):
                deed(of_roots(1), (1, 1), (1, 2))
        with self.assertRaises(BadSize):
            roots.narrowed(of_roots(1), (2, 1), (0, 1), 1)

    def test_all_of(self):
        for one, found in MADE:
            self.assertEqual(roots.all_of(one), len(found))
        self.assertEqual(roots.all_of(parts_of("5")), 0)
        self.assertEqual(roots.all_of(parts_of("-2 0 1")), 2)

    def test_bound(self):
        self.assertEqual(roots.bound(parts_of("-6 11 -6 1")), (12, 1))
        self.assertEqual(roots.bound(parts_of("3 -4 -2")), (3, 1))
        self.assertEqual(roots.bound(parts_of("1 -2/3")), (5, 2))
        self.assertEqual(roots.bound(parts_of("0 0 7")), (1, 1))
        for one, found in MADE:
            end = roots.bound(one)
            self.assertIs(type(end), tuple)
            self.assertTrue(all(abs(root) < Fraction(*end) for root in found))

    def test_the_bound_of_a_lone_number(self):
        self.assertEqual(roots.bound(parts_of("-5/3")), (1, 1))

    def test_sign_at(self):
        one = of_roots(1, 2)
        for at, due in (("0", 1), ("1", 0), ("3/2", -1), ("2", 0), ("5", 1)):
            self.assertEqual(roots.sign_at(one, as_part(at)), due)
        self.assertEqual(roots.sign_at((), (5, 1)), 0)
        with self.assertRaises(BadPart):
            roots.sign_at(one, (1, 0))


class PartedTests(unittest.TestCase):
    def assertParted(self, rows, found, low, high):
        """See that rows are rising, within a low and a high, each alone with one root."""
        self.assertEqual(len(rows), len(found))
        ends = [low]
        for (below, above), root in zip(rows, found):
            self.assertTrue(Fraction(*below) < root <= Fraction(*above))
            self.assertEqual(sum(Fraction(*below) < other <= Fraction(*above) for other in found), 1)
            ends += [Fraction(*below), Fraction(*above)]
        self.assertEqual(ends, sorted(ends))
        self.assertTrue(ends[-1] <= high)

    def test_apart(self):
        for one, found in MADE:
            rows = roots.apart(one)
            self.assertTrue(are_tuples(rows))
            end = Fraction(*roots.bound(one))
            self.assertParted(rows, found, -end, end)

    def test_apart_is_halved_from_the_bound_down_and_up(self):
        # The bound is four; both are still together above nought, and up to two.
        self.assertEqual(roots.apart(of_roots(1, 2)), (((0, 1), (1, 1)), ((1, 1), (2, 1))))
        self.assertEqual(roots.apart(of_roots(1)), (((-2, 1), (2, 1)),))
        self.assertEqual(roots.apart(of_roots(-1, 1)), (((-2, 1), (0, 1)), ((0, 1), (2, 1))))
        self.assertEqual(roots.apart(parts_of("1 0 1")), ())
        self.assertEqual(roots.apart(parts_of("3")), ())

    def test_split(self):
        for one, found in MADE:
            for low, high in ((Fraction(-8), Fraction(8)), (Fraction(0), Fraction(1, 2)), (Fraction(-5), Fraction(0))):
                rows = roots.split(one, as_part(low), as_part(high))
                self.assertIs(type(rows), list)
                self.assertTrue(all(are_tuples(row) for row in rows))
                self.assertParted(rows, [root for root in found if low < root <= high], low, high)

    def test_split_where_one_or_none_is(self):
        self.assertEqual(roots.split(of_roots(1), (0, 1), (5, 1)), [((0, 1), (5, 1))])
        self.assertEqual(roots.split(of_roots(1), (1, 1), (5, 1)), [])
        self.assertEqual(roots.split(of_roots(1, 2), (0, 1), (3, 1)), [((0, 1), (3, 2)), ((3, 2), (3, 1))])

    def test_roots_that_stand_close(self):
        near = Fraction(1, 10 ** 30)
        rows = roots.apart(of_roots(near, 2 * near, -1))
        self.assertParted(rows, [Fraction(-1), near, 2 * near], Fraction(-3), Fraction(3))

    def test_narrowed(self):
        one = parts_of("-2 0 1")
        self.assertEqual(roots.narrowed(one, (0, 1), (2, 1), 0), ((0, 1), (2, 1)))
        self.assertEqual(roots.narrowed(one, (0, 1), (2, 1), 1), ((1, 1), (2, 1)))
        self.assertEqual(roots.narrowed(one, (0, 1), (2, 1), 3), ((5, 4), (3, 2)))
        low, high = roots.narrowed(one, (0, 1), (2, 1), 40)
        self.assertEqual(Fraction(*high) - Fraction(*low), Fraction(2, 2 ** 40))
        self.assertTrue(Fraction(*low) ** 2 < 2 < Fraction(*high) ** 2)
        self.assertTrue(are_tuples(roots.narrowed(one, (0, 1), (2, 1), 3)))

    def test_narrowed_about_a_root_in_the_middle(self):
        self.assertEqual(roots.narrowed(of_roots(1, 1), (0, 1), (2, 1), 1), ((0, 1), (1, 1)))
        self.assertEqual(roots.narrowed(of_roots(1, 1), (0, 1), (2, 1), 3), ((3, 4), (1, 1)))

    def test_narrowed_about_none_or_many_is_refused(self):
        for one, low, high, turns in (
            (of_roots(1, 2), 0, 3, 1),
            (of_roots(1, 2), 0, 2, 0),
            (of_roots(1, 2), 2, 3, 1),
            (of_roots(1, 2), 5, 9, 0),
            (parts_of("1 0 1"), -5, 5, 1),
            (of_roots(1), 1, 1, 1),
            (of_roots(1), 0, 3, -1),
        ):
            with self.assertRaises(BadSize):
                roots.narrowed(one, (low, 1), (high, 1), turns)

    def test_what_is_handed_in_stays(self):
        one = list(of_roots(1, 2, 2))
        before = copy.deepcopy(one)
        roots.rests(one)
        roots.apart(one)
        roots.samples(one, (0, 1), (5, 1))
        roots.inside_circle(one)
        with self.assertRaises(BadSize):
            roots.narrowed(one, (0, 1), (5, 1), 3)
        self.assertEqual(one, before)


class SampleTests(unittest.TestCase):
    def test_samples_in_order(self):
        for one, found in MADE:
            for low, high in itertools.combinations_with_replacement(sorted(ends_of(found)), 2):
                row = roots.samples(one, as_part(low), as_part(high))
                self.assertTrue(are_tuples(row))
                self.assertEqual(row[:2], (as_part(low), as_part(high)))
                within = [root for root in found if low < root <= high]
                self.assertEqual(len(row), len(within) + 2)
                before = None
                for root, at in zip(within, row[2:]):
                    place = Fraction(*at)
                    self.assertTrue(low <= place < root)
                    self.assertTrue(before is None or before < place)
                    # A place that is itself a root would tell nothing of what lies between.
                    self.assertNotIn(place, found)
                    before = root

    def test_samples_where_the_low_is_a_root(self):
        row = roots.samples(of_roots(0, 1), (0, 1), (1, 1))
        self.assertEqual(row[:2], ((0, 1), (1, 1)))
        self.assertEqual(len(row), 3)
        self.assertTrue(0 < Fraction(*row[2]) < 1)

    def test_samples_of_what_has_no_roots(self):
        self.assertEqual(roots.samples(parts_of("1 0 1"), (-3, 1), (3, 1)), ((-3, 1), (3, 1)))
        self.assertEqual(roots.samples(of_roots(1), (1, 1), (1, 1)), ((1, 1), (1, 1)))

    def test_never_below(self):
        for one, due in (
            (of_roots(1, 1), True),
            (of_roots(1, 1, 2, 2), True),
            (scaled_curve(of_roots(1, 1), (-1, 1)), False),
            (of_roots(1, 2), False),
            (of_roots(0, 3), False),
            (scaled_curve(of_roots(0, 3), (-1, 1)), True),
            (of_roots(0), True),
            (of_roots(3), False),
            (scaled_curve(of_roots(3), (-1, 1)), True),
            (of_roots(0, 0, 1, 1, 3), False),
            (of_roots(-1, 1, 1), True),
            (of_roots(1, 1, 1), False),
            (parts_of("2"), True),
            (parts_of("-2"), False),
            ((), True),
            ([], True),
        ):
            self.assertIs(roots.never_below(one, (0, 1), (3, 1)), due)

    def test_never_below_at_one_place(self):
        self.assertIs(roots.never_below(of_roots(1), (1, 1), (1, 1)), True)
        self.assertIs(roots.never_below(of_roots(1), (0, 1), (0, 1)), False)

    def test_never_below_by_many_places(self):
        for one, found in MADE:
            for low, high in itertools.combinations(sorted(ends_of(found))[::2], 2):
                ends = sorted(set([low, high] + [root for root in found if low <= root <= high]))
                places = ends + [(a + b) / 2 for a, b in zip(ends, ends[1:])]
                due = all(worth(one, as_part(place))[0] >= 0 for place in places)
                self.assertIs(roots.never_below(one, as_part(low), as_part(high)), due)

    def test_a_bare_one_with_high_below_low_is_refused(self):
        with self.assertRaises(BadSize):
            roots.never_below((), (1, 1), (0, 1))


class CircleTests(unittest.TestCase):
    def test_roots_on_the_line(self):
        for row, due in (
            ((), True),
            (("0",), True),
            (("1/2", "-1/3"), True),
            (("99/100", "-99/100", "99/100"), True),
            (("1",), False),
            (("-1",), False),
            (("1/2", "1"), False),
            (("0", "0", "1"), False),
            (("1", "1"), False),
            (("2",), False),
            (("1/2", "2"), False),
            (("1/4", "2"), False),
            (("1/2", "1/2", "1/2", "-3/2"), False),
            (("0", "-5"), False),
        ):
            for by in ((1, 1), (-3, 7)):
                self.assertIs(roots.inside_circle(scaled_curve(of_roots(*row), by)), due, row)

    def test_pairs_that_are_not_on_the_line(self):
        for middle, square, due in (
            ("0", "1/4", True),
            ("0", "99/100", True),
            ("0", "1", False),
            ("0", "2", False),
            ("3/5", "16/25", False),
            ("3/5", "15/25", True),
            ("3/5", "17/25", False),
            ("-1/2", "1/2", True),
            ("-1/2", "3/4", False),
            ("-1/2", "1", False),
        ):
            pair = of_pair(middle, square)
            for row in ((), ("1/2",), ("-1/3", "0", "1/5")):
                one = multiplied(pair, of_roots(*row))
                self.assertIs(roots.inside_circle(one), due, (middle, square))
                self.assertIs(roots.inside_circle(list(one)), due)
                self.assertFalse(roots.inside_circle(multiplied(one, of_roots("3/2"))))
                self.assertFalse(roots.inside_circle(multiplied(one, of_roots("-1"))))

    def test_many_roots(self):
        inner = ("1/2", "-2/3", "3/4", "-4/5", "5/6")
        one = multiplied(of_roots(*inner), multiplied(of_pair("1/2", "1/2"), of_pair("-1/3", "1/9")))
        self.assertIs(roots.inside_circle(one), True)
        self.assertIs(roots.inside_circle(one[::-1]), False)
        self.assertIs(roots.inside_circle(multiplied(one, of_pair("1/2", "3/4"))), False)

    def test_lone_numbers_have_no_roots(self):
        self.assertIs(roots.inside_circle(parts_of("-4/3")), True)


if __name__ == "__main__":
    unittest.main()
