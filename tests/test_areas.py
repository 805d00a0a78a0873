"""Tests of stepwright.areas: point 8, and points 1 and 18 as far as they concern areas."""

import copy
import itertools
import unittest
from fractions import Fraction

from stepwright import areas
from stepwright.areas import Rule
from stepwright.curves import between, powers, through, worth
from stepwright.errors import BadPart, BadSize, BadTable, StepFault
from tests.known import are_tuples, as_part, fractions_of, parts_of

LEFT = Rule(parts_of("0"), parts_of("1"))
MIDDLE = Rule(parts_of("1/2"), parts_of("1"))
ENDS = Rule(parts_of("0 1"), parts_of("1/2 1/2"))
THREE = Rule(parts_of("0 1/2 1"), parts_of("1/6 2/3 1/6"))
RADAU = Rule(parts_of("1/3 1"), parts_of("3/4 1/4"))
WRONG = Rule(parts_of("2/3 1/5"), parts_of("-1 3/7"))
RULES = (LEFT, MIDDLE, ENDS, THREE, RADAU, WRONG)
ODD = parts_of("2 -1/3 0 5 1/7 -2")
SPANS = (((0, 1), (1, 1)), ((-2, 1), (5, 3)), ((1, 2), (-7, 4)), ((3, 1), (3, 1)))


def deed_of(one):
    return lambda at: worth(one, at)


def area_by_sum(rule, deed, low, high):
    """Tell an area with fractions of Python's own."""
    low, length = Fraction(*low), Fraction(*high) - Fraction(*low)
    return length * sum(
        weight * Fraction(*deed(as_part(low + length * place)))
        for place, weight in zip(fractions_of(rule.places), fractions_of(rule.weights))
    )


def peak(at):
    """A function that isn't a polynomial: it is steep at nought."""
    found = 1 / (1 + 25 * Fraction(*at) ** 2)
    return as_part(found)


class MakingTests(unittest.TestCase):
    def test_fields(self):
        rule = Rule([(1, 1), (0, 1)], [(1, 3), (2, 3)])
        self.assertEqual(rule.places, ((1, 1), (0, 1)))
        self.assertEqual(rule.weights, ((1, 3), (2, 3)))
        self.assertEqual(rule.shown(), (rule.places, rule.weights))

    def test_lists_and_tuples_of_parts_not_made_small(self):
        for kind in (list, tuple):
            rule = Rule(kind([(2, 4), (0, -3)]), kind([(-3, -9), (6, 9)]))
            self.assertEqual(rule.shown(), (((1, 2), (0, 1)), ((1, 3), (2, 3))))
            self.assertTrue(are_tuples(rule.shown()))

    def test_what_is_handed_in_is_neither_kept_nor_changed(self):
        places, weights = [(0, 2), (1, 1)], [(2, 4), (1, 2)]
        before = copy.deepcopy((places, weights))
        rule = Rule(places, weights)
        self.assertEqual((places, weights), before)
        places[0] = (1, 3)
        self.assertEqual(rule.shown(), ENDS.shown())

    def test_places_twice_none_or_not_as_many_are_refused(self):
        for places, weights in (
            ((), ()),
            ([], []),
            ((), parts_of("1")),
            (parts_of("1/2"), ()),
            (parts_of("0 1"), parts_of("1")),
            (parts_of("0"), parts_of("1 1")),
            (parts_of("0 0"), parts_of("1 1")),
            (parts_of("0 1/2 1 1/2"), parts_of("1 1 1 1")),
            ([(1, 2), (2, 4)], parts_of("1 1")),
        ):
            with self.subTest(places), self.assertRaises(BadTable):
                Rule(places, weights)

    def test_a_part_by_nought_is_refused(self):
        with self.assertRaises(BadPart):
            Rule([(1, 0)], [(1, 1)])
        with self.assertRaises(BadPart):
            Rule([(1, 1)], [(1, 0)])

    def test_the_errors_are_step_faults(self):
        with self.assertRaises(StepFault):
            Rule([], [])


class AreaTests(unittest.TestCase):
    def test_area(self):
        for rule, (low, high) in itertools.product(RULES, SPANS):
            for deed in (deed_of(ODD), peak, lambda at: (3, 1)):
                found = rule.area(deed, low, high)
                self.assertEqual(found, as_part(area_by_sum(rule, deed, low, high)))
                self.assertIs(type(found), tuple)

    def test_by_hand(self):
        square = deed_of(powers(2))
        self.assertEqual(LEFT.area(square, (1, 1), (3, 1)), (2, 1))
        self.assertEqual(ENDS.area(square, (1, 1), (3, 1)), (10, 1))
        self.assertEqual(THREE.area(square, (1, 1), (3, 1)), (26, 3))

    def test_from_a_high_to_a_lower_part(self):
        square = deed_of(powers(2))
        # The place nought is now the high end.
        self.assertEqual(LEFT.area(square, (3, 1), (1, 1)), (-18, 1))
        self.assertEqual(THREE.area(square, (3, 1), (1, 1)), (-26, 3))

    def test_a_function_is_asked_once_at_each_place_in_order(self):
        asked = []

        def deed(at):
            asked.append(at)
            return (2, 4)

        Rule(parts_of("1 0 1/3"), parts_of("1 1 1")).area(deed, (2, 1), (5, 1))
        self.assertEqual(asked, [(5, 1), (2, 1), (3, 1)])

    def test_lack(self):
        for rule, power in itertools.product(RULES, range(0, 7)):
            told = sum(
                weight * place ** power
                for place, weight in zip(fractions_of(rule.places), fractions_of(rule.weights))
            )
            self.assertEqual(rule.lack(power), as_part(told - Fraction(1, power + 1)))
        self.assertEqual(THREE.lack(4), (1, 120))
        self.assertIs(type(THREE.lack(4)), tuple)

    def test_exact_to(self):
        for rule, due in ((LEFT, 0), (MIDDLE, 1), (ENDS, 1), (THREE, 3), (RADAU, 2), (WRONG, -1)):
            for most in range(0, 7):
                self.assertEqual(rule.exact_to(most), min(due, most))

    def test_exact_to_stops_at_the_first_that_lacks(self):
        # Right for the second power, wrong for the first.
        rule = Rule(parts_of("0 1"), parts_of("2/3 1/3"))
        self.assertEqual([rule.lack(power)[0] == 0 for power in range(3)], [True, False, True])
        self.assertEqual(rule.exact_to(5), 0)

    def test_below_nought_is_refused(self):
        for count in (-1, -5):
            with self.assertRaises(BadSize):
                MIDDLE.lack(count)
            with self.assertRaises(BadSize):
                MIDDLE.exact_to(count)


class InTurnTests(unittest.TestCase):
    def test_places_that_meet_are_put_together_in_the_order_they_first_come(self):
        self.assertEqual(ENDS.in_turn(2).shown(), (parts_of("0 1/2 1"), parts_of("1/4 1/2 1/4")))
        self.assertEqual(MIDDLE.in_turn(3).shown(), (parts_of("1/6 1/2 5/6"), parts_of("1/3 1/3 1/3")))
        turned = Rule(parts_of("1 0"), parts_of("2/3 1/3"))
        self.assertEqual(turned.in_turn(3).shown(), (parts_of("1/3 0 2/3 1"), parts_of("1/3 1/9 1/3 2/9")))

    def test_weights_that_come_to_nought_stay(self):
        rule = Rule(parts_of("0 1"), parts_of("1 -1"))
        self.assertEqual(rule.in_turn(2).shown(), (parts_of("0 1/2 1"), parts_of("1/2 0 -1/2")))

    def test_it_is_the_rule_on_each_part(self):
        for rule, count, (low, high) in itertools.product(RULES, (1, 2, 3, 5), SPANS):
            found = rule.in_turn(count)
            self.assertIsInstance(found, Rule)
            start, length = Fraction(*low), (Fraction(*high) - Fraction(*low)) / count
            due = sum(
                area_by_sum(rule, deed_of(ODD), as_part(start + turn * length), as_part(start + (turn + 1) * length))
                for turn in range(count)
            )
            self.assertEqual(found.area(deed_of(ODD), low, high), as_part(due))
            self.assertEqual(sum(fractions_of(found.weights)), sum(fractions_of(rule.weights)))
            self.assertEqual(len(set(found.places)), len(found.places))

    def test_one_part_is_the_rule_itself_and_it_stays(self):
        for rule in RULES:
            before = rule.shown()
            self.assertEqual(rule.in_turn(1).shown(), before)
            rule.in_turn(3)
            self.assertEqual(rule.shown(), before)

    def test_counts_below_one_are_refused(self):
        for count in (0, -1):
            with self.assertRaises(BadSize):
                MIDDLE.in_turn(count)


class PlacesTests(unittest.TestCase):
    def test_known_rules_of_even_places(self):
        for count, weights, exact in (
            (1, "1", 1),
            (2, "1/2 1/2", 1),
            (3, "1/6 2/3 1/6", 3),
            (4, "1/8 3/8 3/8 1/8", 3),
            (5, "7/90 16/45 2/15 16/45 7/90", 5),
        ):
            rule = areas.even_rule(count)
            self.assertIsInstance(rule, Rule)
            self.assertEqual(rule.weights, parts_of(weights))
            self.assertEqual(rule.exact_to(8), exact)
            self.assertTrue(areas.is_even(rule))
            self.assertTrue(areas.none_below(rule))
        self.assertEqual(areas.even_rule(1).places, parts_of("1/2"))
        self.assertEqual(areas.even_rule(2).places, parts_of("0 1"))
        self.assertEqual(areas.even_rule(5).places, parts_of("0 1/4 1/2 3/4 1"))

    def test_even_places_with_weights_below_nought(self):
        self.assertIs(areas.none_below(areas.even_rule(8)), True)
        self.assertIs(areas.none_below(areas.even_rule(9)), False)

    def test_even_rules_below_one_are_refused(self):
        for count in (0, -1, -7):
            with self.assertRaises(BadSize):
                areas.even_rule(count)

    def test_by_places(self):
        for text in ("0", "1/2", "1", "0 1", "1/3 1", "1 1/3", "0 1/2 1", "1/5 7/8 -1/2 3", "0 1/7 2/7 1/2 6/7"):
            places = parts_of(text)
            for kind in (list, tuple):
                rule = areas.by_places(kind(places))
                self.assertIsInstance(rule, Rule)
                self.assertEqual(rule.places, places)
                self.assertGreaterEqual(rule.exact_to(8), len(places) - 1)
        self.assertEqual(areas.by_places(parts_of("1/3 1")).shown(), RADAU.shown())
        self.assertEqual(areas.by_places(parts_of("1 1/2 0")).weights, parts_of("1/6 2/3 1/6"))

    def test_by_places_is_the_area_under_the_curve_through_the_points(self):
        places = parts_of("1/5 7/8 -1/2 3")
        points = [(place, peak(place)) for place in places]
        self.assertEqual(
            areas.by_places(places).area(peak, (0, 1), (1, 1)), between(through(points), (0, 1), (1, 1))
        )

    def test_one_twice_or_none_is_refused(self):
        for places in ((), [], parts_of("1 1"), parts_of("0 1/2 0"), [(1, 3), (1, 2), (1, 2)]):
            with self.subTest(places), self.assertRaises(BadTable):
                areas.by_places(places)

    def test_is_even(self):
        for rule, due in (
            (LEFT, False),
            (MIDDLE, True),
            (ENDS, True),
            (RADAU, False),
            (Rule(parts_of("1 0 1/2"), parts_of("1/6 1/6 2/3")), True),
            (Rule(parts_of("3/4 0 1/4 1"), parts_of("2 -1 2 -1")), True),
            (Rule(parts_of("3/4 0 1/4 1"), parts_of("2 2 -1 -1")), False),
            (Rule(parts_of("0 1"), parts_of("1/3 2/3")), False),
            (Rule(parts_of("0 1 1/3"), parts_of("1/2 1/2 0")), False),
            (Rule(parts_of("-1 2"), parts_of("1/2 1/2")), True),
        ):
            self.assertIs(areas.is_even(rule), due)

    def test_none_below(self):
        for rule, due in (
            (ENDS, True), (WRONG, False), (Rule(parts_of("0 1"), parts_of("0 1")), True),
            (Rule(parts_of("0 1"), parts_of("2 -1")), False),
        ):
            self.assertIs(areas.none_below(rule), due)


class SharpenedTests(unittest.TestCase):
    def test_by_hand(self):
        self.assertEqual(areas.sharpened(parts_of("1 2 4"), 1), (parts_of("1 2 4"), parts_of("3 6"), parts_of("7")))
        self.assertEqual(areas.sharpened(parts_of("1 2 4"), 2), (
            parts_of("1 2 4"), parts_of("7/3 14/3"), parts_of("217/45"),
        ))
        self.assertEqual(areas.sharpened(list(parts_of("5/2")), 3), (parts_of("5/2"),))

    def test_rows_within_are_tuples(self):
        for kind in (list, tuple):
            found = areas.sharpened(kind(parts_of("1 2 4 8")), 2)
            self.assertTrue(are_tuples(found))
            self.assertEqual([len(row) for row in found], [4, 3, 2, 1])

    def test_no_parts_have_nothing_to_put_together(self):
        self.assertEqual(areas.sharpened([], 1), ((),))

    def test_errors_of_powers_go_one_behind_another(self):
        for by in (1, 2, 3):
            row = [as_part(7 + sum(
                Fraction(3 + turn, 2) * Fraction(1, 2 ** at) ** (by * turn) for turn in range(1, 5)
            )) for at in range(5)]
            found = areas.sharpened(row, by)
            self.assertEqual(found[4], ((7, 1),))
            self.assertNotIn((7, 1), found[3])

    def test_below_one_is_refused(self):
        for by in (0, -1):
            with self.assertRaises(BadSize):
                areas.sharpened(parts_of("1 2"), by)

    def test_halved_rows(self):
        for rule, (low, high) in itertools.product(RULES, SPANS):
            found = areas.halved_rows(rule, peak, low, high, 4)
            self.assertTrue(are_tuples(found))
            self.assertEqual(found, tuple(rule.in_turn(count).area(peak, low, high) for count in (1, 2, 4, 8)))
        self.assertEqual(areas.halved_rows(ENDS, deed_of(powers(2)), (0, 1), (1, 1), 3), parts_of("1/2 3/8 11/32"))
        self.assertEqual(len(areas.halved_rows(ENDS, peak, (0, 1), (1, 1), 1)), 1)

    def test_halved_rows_below_one_are_refused(self):
        for count in (0, -2):
            with self.assertRaises(BadSize):
                areas.halved_rows(ENDS, peak, (0, 1), (1, 1), count)

    def test_halved_rows_sharpened(self):
        for low, high in SPANS:
            due = between(ODD, low, high)
            found = areas.sharpened(areas.halved_rows(ENDS, deed_of(ODD), low, high, 4), 2)
            self.assertEqual(found[2], (due,) * 2)
            self.assertEqual(found[3], (due,))
            # Once sharpened the rule of two ends is that of three even places.
            self.assertEqual(found[1], areas.halved_rows(THREE, deed_of(ODD), low, high, 3))


class FineTests(unittest.TestCase):
    def test_at_depth_nought(self):
        for rule, (low, high) in itertools.product(RULES, SPANS):
            due = (rule.in_turn(2).area(peak, low, high), ((low, high),))
            self.assertEqual(areas.as_fine(rule, peak, low, high, (0, 1), 0), due)

    def test_where_the_rule_is_exact_nothing_is_halved(self):
        found = areas.as_fine(THREE, deed_of(powers(3)), (0, 1), (2, 1), (0, 1), 9)
        self.assertEqual(found, ((4, 1), (((0, 1), (2, 1)),)))

    def test_by_hand(self):
        # In one the ends tell 1/2, in two 3/8: 1/8 apart, and each half 1/64 apart by its half of the most.
        square = deed_of(powers(2))
        self.assertEqual(areas.as_fine(ENDS, square, (0, 1), (1, 1), (1, 8), 5), ((3, 8), (((0, 1), (1, 1)),)))
        halves = (((0, 1), (1, 2)), ((1, 2), (1, 1)))
        self.assertEqual(areas.as_fine(ENDS, square, (0, 1), (1, 1), (1, 9), 5), ((11, 32), halves))
        self.assertEqual(areas.as_fine(ENDS, square, (0, 1), (1, 1), (1, 32), 5), ((11, 32), halves))
        self.assertEqual(len(areas.as_fine(ENDS, square, (0, 1), (1, 1), (1, 33), 5)[1]), 4)
        self.assertEqual(areas.as_fine(ENDS, square, (0, 1), (1, 1), (0, 1), 1), ((11, 32), halves))

    def test_parts_in_order(self):
        found, taken = areas.as_fine(ENDS, peak, (-1, 1), (3, 1), (1, 50), 8)
        self.assertTrue(are_tuples((found, taken)))
        self.assertEqual((taken[0][0], taken[-1][1]), ((-1, 1), (3, 1)))
        for one, other in zip(taken, taken[1:]):
            self.assertEqual(one[1], other[0])
        lengths = [Fraction(*high) - Fraction(*low) for low, high in taken]
        # Where it is steep the parts are short.
        self.assertGreater(len(set(lengths)), 2)
        self.assertEqual(found, as_part(sum(
            Fraction(*ENDS.in_turn(2).area(peak, low, high)) for low, high in taken
        )))

    def test_each_part_is_halved_just_where_the_two_differ_by_more_than_its_share(self):
        def due(rule, deed, low, high, most, depth):
            one, two = rule.area(deed, low, high), rule.in_turn(2).area(deed, low, high)
            if depth == 0 or abs(Fraction(*two) - Fraction(*one)) <= most:
                return Fraction(*two), ((low, high),)
            middle = as_part((Fraction(*low) + Fraction(*high)) / 2)
            first = due(rule, deed, low, middle, most / 2, depth - 1)
            second = due(rule, deed, middle, high, most / 2, depth - 1)
            return first[0] + second[0], first[1] + second[1]

        for rule, (low, high) in itertools.product(RULES, SPANS):
            for most, depth in (((1, 20), 6), ((1, 3), 3), ((0, 1), 2), ((1, 1000), 5)):
                area, taken = due(rule, peak, low, high, Fraction(*most), depth)
                self.assertEqual(areas.as_fine(rule, peak, low, high, most, depth), (as_part(area), taken))

    def test_from_a_high_to_a_lower_part(self):
        area, taken = areas.as_fine(ENDS, deed_of(powers(2)), (1, 1), (0, 1), (1, 9), 5)
        self.assertEqual((area, taken), ((-11, 32), (((1, 1), (1, 2)), ((1, 2), (0, 1)))))

    def test_below_nought_is_refused(self):
        for most, depth in (((-1, 9), 3), ((1, 9), -1), ((-1, 1), -1)):
            with self.assertRaises(BadSize):
                areas.as_fine(ENDS, peak, (0, 1), (1, 1), most, depth)


if __name__ == "__main__":
    unittest.main()
