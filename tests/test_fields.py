"""Tests of stepwright.fields: point 9, and points 1 and 18 as far as they concern fields."""

import copy
import itertools
import unittest
from fractions import Fraction

from stepwright import fields
from stepwright.errors import BadField, BadPart, StepFault
from stepwright.fields import Field, poly
from stepwright.trees import LEAF, trees_up_to
from tests.known import (
    GROWING, HUNTING, MOTIONS, SQUARING, STEEP, STILL, TIMED, TURNING, TWISTING, are_tuples, as_part, field_of,
    parts_of, poly_rows,
)

TWO = (LEAF,)
FORK = (LEAF, LEAF)
SOME = tuple(poly(poly_rows(text)) for text in (
    "", "5/3*0.0", "1*1.0", "-2*0.1", "1*2.0; 1*0.2", "1/2*1.1; -3*0.0", "1*3.2; 2/7*0.4; -1*1.0",
))
POINTS = (parts_of("0 0"), parts_of("1 -1"), parts_of("2/3 -5/2"))


def worth_by_powers(one, point):
    found = Fraction(0)
    for key, part in one.items():
        term = Fraction(*part)
        for power, place in zip(key, point):
            term *= Fraction(*place) ** power
        found += term
    return found


def bent_by_small_steps(one, point, rows):
    """Tell a polynomial's slope along rows by steps so small that their squares are nought.

    A number is a table of sets of such steps to fractions; the part of all steps together is the slope.
    """
    def product(mine, its):
        found = {}
        for a, b in itertools.product(mine, its):
            if not a & b:
                found[a | b] = found.get(a | b, 0) + mine[a] * its[b]
        return found

    places = []
    for letter, place in enumerate(point):
        number = {frozenset(): Fraction(*place)}
        for at, row in enumerate(rows):
            number[frozenset([at])] = Fraction(*row[letter])
        places.append(number)
    found = Fraction(0)
    for key, part in one.items():
        term = {frozenset(): Fraction(*part)}
        for power, number in zip(key, places):
            for _ in range(power):
                term = product(term, number)
        found += term.get(frozenset(range(len(rows))), 0)
    return found


class PolyTests(unittest.TestCase):
    def assertPoly(self, found):
        """See that a polynomial is a table in order, without noughts, of parts made small."""
        self.assertIs(type(found), dict)
        self.assertEqual(list(found), sorted(found))
        for key, part in found.items():
            self.assertIs(type(key), tuple)
            self.assertEqual(part, as_part(Fraction(*part)))
            self.assertNotEqual(part, (0, 1))


class MakingTests(PolyTests):
    def test_poly(self):
        found = poly([((1, 0), (2, 4)), ((0, 2), (3, 1)), ((0, 0), (-1, -1))])
        self.assertEqual(found, {(0, 0): (1, 1), (0, 2): (3, 1), (1, 0): (1, 2)})
        self.assertPoly(found)

    def test_lists_and_tuples(self):
        for kind in (list, tuple):
            found = poly(kind([kind([kind([2, 0]), (1, 2)]), kind([kind([0, 1]), (1, 1)])]))
            self.assertEqual(list(found.items()), [((0, 1), (1, 1)), ((2, 0), (1, 2))])
            self.assertPoly(found)

    def test_like_powers_are_added(self):
        found = poly([((1,), (1, 2)), ((0,), (1, 1)), ((1,), (1, 3))])
        self.assertEqual(found, {(0,): (1, 1), (1,): (5, 6)})

    def test_noughts_are_left_out(self):
        self.assertEqual(poly([]), {})
        self.assertEqual(poly([((1,), (0, 5))]), {})
        self.assertEqual(poly([((1,), (1, 2)), ((3,), (1, 1)), ((1,), (-2, 4))]), {(3,): (1, 1)})

    def test_powers_below_nought_are_refused(self):
        for rows in ([((-1,), (1, 1))], [((0, 1), (1, 1)), ((2, -1), (1, 1))], [((-1, 0), (0, 1))]):
            with self.assertRaises(BadField):
                poly(rows)

    def test_unlike_powers_are_refused(self):
        for rows in (
            [((1,), (1, 1)), ((1, 0), (1, 1))],
            [((1, 0), (1, 1)), ((), (1, 1))],
            [((1, 0), (1, 1)), ((1, 0, 0), (1, 1))],
            [((1, 0), (1, 1)), ((1, 0), (-1, 1)), ((1,), (1, 1))],
        ):
            with self.assertRaises(BadField):
                poly(rows)

    def test_a_part_by_nought_is_refused(self):
        with self.assertRaises(BadPart):
            poly([((1,), (1, 0))])

    def test_field(self):
        field = Field([[([0, 1], (2, -2))], (((1, 0), (1, 1)), ((1, 0), (1, 1)), ((0, 0), (0, 1)))])
        self.assertEqual(field.polys, ({(0, 1): (-1, 1)}, {(1, 0): (2, 1)}))
        self.assertIs(type(field.polys), tuple)
        self.assertEqual(field.size(), 2)
        self.assertEqual(field.shown(), ((((0, 1), (-1, 1)),), (((1, 0), (2, 1)),)))
        for one in field.polys:
            self.assertPoly(one)

    def test_shown_makes_the_field_again(self):
        for field, point in MOTIONS:
            self.assertTrue(are_tuples(field.shown()))
            self.assertEqual(Field(field.shown()).polys, field.polys)
            self.assertEqual(field.size(), len(point))

    def test_fields_of_no_letters_or_of_other_ones_are_refused(self):
        for rows in (
            [],
            (),
            [poly_rows("1*1.0")],
            [poly_rows("1*1"), poly_rows("1*1")],
            [poly_rows("1*1.0"), poly_rows("1*1")],
            [poly_rows("1*1.0"), poly_rows("1*1.0.0")],
            [[((), (1, 1))]],
        ):
            with self.subTest(rows), self.assertRaises(BadField):
                Field(rows)

    def test_what_polys_refuse_is_refused(self):
        with self.assertRaises(BadField):
            Field([[((-1,), (1, 1))]])
        with self.assertRaises(BadField):
            Field([[((1, 0), (1, 1)), ((1,), (1, 1))], []])
        with self.assertRaises(BadPart):
            Field([[((1,), (1, 0))]])

    def test_fields_that_stand_still(self):
        field = Field([[], []])
        self.assertEqual(field.polys, ({}, {}))
        self.assertEqual(field.at(parts_of("1 2")), parts_of("0 0"))
        self.assertEqual(field.degree(), 0)

    def test_what_is_handed_in_is_neither_kept_nor_changed(self):
        rows = [[([1], (2, 4))]]
        before = copy.deepcopy(rows)
        field = Field(rows)
        self.assertEqual(rows, before)
        rows[0][0][0][0] = 5
        rows[0].append(([2], (1, 1)))
        self.assertEqual(field.polys, ({(1,): (1, 2)},))

    def test_degree(self):
        for field, due in (
            (GROWING, 1), (SQUARING, 2), (TURNING, 1), (TWISTING, 2), (STEEP, 3), (STILL, 0),
            (field_of("1*3.2; 1*4.0", ""), 5),
        ):
            self.assertEqual(field.degree(), due)

    def test_the_errors_are_step_faults(self):
        with self.assertRaises(StepFault):
            Field([])


class WorthTests(PolyTests):
    def test_worth_of(self):
        for one, point in itertools.product(SOME, POINTS):
            self.assertEqual(fields.worth_of(one, point), as_part(worth_by_powers(one, point)))
            self.assertEqual(fields.worth_of(one, list(point)), fields.worth_of(one, point))
        self.assertEqual(fields.worth_of({}, POINTS[1]), (0, 1))

    def test_power_row(self):
        self.assertEqual(fields.power_row((2, 0, 1), parts_of("-2/3 5 7")), (28, 9))
        self.assertEqual(fields.power_row((0, 0), parts_of("0 0")), (1, 1))
        self.assertEqual(fields.power_row((0, 1), parts_of("4 0")), (0, 1))
        self.assertEqual(fields.power_row((), ()), (1, 1))

    def test_at(self):
        for field, point in MOTIONS:
            found = field.at(point)
            self.assertTrue(are_tuples(found))
            self.assertEqual(found, tuple(as_part(worth_by_powers(one, point)) for one in field.polys))
            self.assertEqual(field.at(list(point)), found)

    def test_a_point_of_another_length_is_refused(self):
        for field, point in MOTIONS:
            for wrong in (point[1:], point + ((1, 1),), ()):
                with self.assertRaises(BadField):
                    field.at(wrong)
                with self.assertRaises(BadField):
                    field.bent(wrong, [])
                with self.assertRaises(BadField):
                    field.of_tree(LEAF, wrong)
                with self.assertRaises(BadField):
                    field.of_tree((TWO, FORK), wrong)

    def test_a_row_of_another_length_is_refused(self):
        for field, point in MOTIONS:
            for wrong in (point[1:], point + ((1, 1),)):
                for rows in ([wrong], (point, wrong), [wrong, point]):
                    with self.assertRaises(BadField):
                        field.bent(point, rows)


class BentTests(PolyTests):
    def test_bent_by(self):
        one = poly(poly_rows("1*3.2; 2/7*0.4; -1*1.0; 5*0.0"))
        self.assertEqual(fields.bent_by(one, 0), poly(poly_rows("3*2.2; -1*0.0")))
        self.assertEqual(fields.bent_by(one, 1), poly(poly_rows("2*3.1; 8/7*0.3")))
        self.assertEqual(fields.bent_by({}, 0), {})
        for one in SOME:
            for letter in (0, 1):
                found = fields.bent_by(one, letter)
                self.assertPoly(found)
                row = [(0, 1), (0, 1)]
                row[letter] = (1, 1)
                for point in POINTS:
                    self.assertEqual(worth_by_powers(found, point), bent_by_small_steps(one, point, [row]))

    def test_bent_along(self):
        one = poly(poly_rows("1*2.1; 3*1.0"))
        self.assertEqual(fields.bent_along(one, parts_of("1/2 -1")), poly(poly_rows("1*1.1; 3/2*0.0; -1*2.0")))
        self.assertEqual(fields.bent_along(one, parts_of("0 0")), {})
        self.assertEqual(fields.bent_along({}, parts_of("1 2")), {})
        for one, row, point in itertools.product(SOME, POINTS, POINTS):
            found = fields.bent_along(one, row)
            self.assertPoly(found)
            self.assertEqual(worth_by_powers(found, point), bent_by_small_steps(one, point, [row]))
            self.assertEqual(fields.bent_along(one, list(row)), found)

    def test_multiplied(self):
        for one, other in itertools.product(SOME, SOME):
            found = fields.multiplied_polys(one, other)
            self.assertPoly(found)
            for point in POINTS:
                self.assertEqual(
                    worth_by_powers(found, point), worth_by_powers(one, point) * worth_by_powers(other, point)
                )
        self.assertEqual(
            fields.multiplied_polys(poly(poly_rows("1*1.0; 1*0.1")), poly(poly_rows("1*1.0; -1*0.1"))),
            poly(poly_rows("1*2.0; -1*0.2")),
        )

    def test_bent(self):
        for field, point in MOTIONS:
            others = [tuple(as_part(Fraction(at + turn, turn + 1)) for at in range(len(point))) for turn in range(4)]
            for size in range(0, 5):
                rows = others[:size]
                found = field.bent(point, rows)
                self.assertTrue(are_tuples(found))
                due = tuple(as_part(bent_by_small_steps(one, point, rows)) for one in field.polys)
                self.assertEqual(found, due)
                self.assertEqual(field.bent(list(point), tuple(rows)), found)
                self.assertEqual(field.bent(point, rows[::-1]), found)

    def test_not_bent_is_the_field_itself(self):
        for field, point in MOTIONS:
            self.assertEqual(field.bent(point, []), field.at(point))

    def test_tables_stay_as_they_were(self):
        one, other = dict(SOME[6]), dict(SOME[5])
        before = (dict(one), dict(other))
        fields.bent_by(one, 0)
        fields.bent_along(one, POINTS[1])
        fields.multiplied_polys(one, other)
        TURNING.change_of(one)
        TURNING.keeps(other)
        self.assertEqual((one, other), before)


class TreeTests(PolyTests):
    def test_by_hand(self):
        # The slope is the square: bent once along a row it is twice the point with it, twice it is two.
        point = parts_of("3")
        self.assertEqual(SQUARING.of_tree(LEAF, point), parts_of("9"))
        self.assertEqual(SQUARING.of_tree(TWO, point), parts_of("54"))
        self.assertEqual(SQUARING.of_tree(FORK, point), parts_of("162"))
        self.assertEqual(SQUARING.of_tree((TWO,), point), parts_of("324"))
        self.assertEqual(SQUARING.of_tree((LEAF, TWO), point), parts_of("972"))
        self.assertEqual(SQUARING.of_tree((LEAF, LEAF, LEAF), point), parts_of("0"))

    def test_by_hand_with_two_letters(self):
        point = parts_of("1/2 3/4")
        slopes = HUNTING.at(point)
        self.assertEqual(HUNTING.of_tree(LEAF, point), slopes)
        x, y = (Fraction(*one) for one in point)
        a, b = (Fraction(*one) for one in slopes)
        two = (Fraction(2, 3) * a - Fraction(4, 3) * (a * y + x * b), -b + a * y + x * b)
        self.assertEqual(HUNTING.of_tree(TWO, point), tuple(as_part(one) for one in two))
        self.assertEqual(HUNTING.of_tree(FORK, point), (as_part(-Fraction(8, 3) * a * b), as_part(2 * a * b)))
        mixed = a * two[1] + b * two[0]
        self.assertEqual(
            HUNTING.of_tree((LEAF, TWO), point), (as_part(-Fraction(4, 3) * mixed), as_part(mixed))
        )

    def test_bent_along_the_branches_rows(self):
        for field, point in MOTIONS:
            for tree in trees_up_to(5):
                rows = [field.of_tree(branch, point) for branch in tree]
                due = tuple(as_part(bent_by_small_steps(one, point, rows)) for one in field.polys)
                found = field.of_tree(tree, point)
                self.assertEqual(found, due)
                self.assertTrue(are_tuples(found))

    def test_the_line_field_knows_tall_trees_alone(self):
        for tree in trees_up_to(5):
            row = TURNING.of_tree(tree, parts_of("1 2"))
            is_tall = all(len(one) < 2 for one in (tree, *tree, *(b for a in tree for b in a)))
            self.assertEqual(row != parts_of("0 0"), is_tall)


class KeepingTests(PolyTests):
    def test_what_stays_the_same(self):
        square = poly(poly_rows("1*2.0; 1*0.2"))
        self.assertIs(TURNING.keeps(square), True)
        self.assertEqual(TURNING.change_of(square), {})
        self.assertIs(TURNING.keeps(poly(poly_rows("7/2*2.0; 7/2*0.2; 3*0.0"))), True)
        self.assertIs(TURNING.keeps(poly(poly_rows("1*4.0; 2*2.2; 1*0.4"))), True)
        self.assertIs(TURNING.keeps({}), True)
        self.assertIs(TWISTING.keeps(poly(poly_rows("1*2.0.0; 1*0.2.0"))), True)
        self.assertIs(TWISTING.keeps(poly(poly_rows("1*2.0.0; 2*0.0.2"))), True)

    def test_what_does_not(self):
        for field, text in (
            (TURNING, "1*2.0; 2*0.2"),
            (TURNING, "1*1.0"),
            (TURNING, "1*1.1"),
            (HUNTING, "1*2.0; 1*0.2"),
            (TWISTING, "1*2.0.0; 1*0.2.0; 1*0.0.2"),
            (GROWING, "1*1"),
        ):
            self.assertIs(field.keeps(poly(poly_rows(text))), False)

    def test_change_of(self):
        self.assertEqual(TURNING.change_of(poly(poly_rows("1*1.0"))), poly(poly_rows("-1*0.1")))
        self.assertEqual(TURNING.change_of(poly(poly_rows("1*1.1"))), poly(poly_rows("1*2.0; -1*0.2")))
        self.assertEqual(SQUARING.change_of(poly(poly_rows("1*3"))), poly(poly_rows("3*4")))
        for field in (TURNING, HUNTING, STEEP, TIMED):
            for one in SOME:
                found = field.change_of(one)
                self.assertPoly(found)
                for point in POINTS:
                    due = bent_by_small_steps(one, point, [field.at(point)])
                    self.assertEqual(worth_by_powers(found, point), due)

    def test_other_letters_are_refused(self):
        for field, text in ((TURNING, "1*1"), (TURNING, "1*1.0.0"), (GROWING, "1*1.0"), (TURNING, "2*")):
            one = {(): (2, 1)} if text == "2*" else poly(poly_rows(text))
            with self.assertRaises(BadField):
                field.change_of(one)
            with self.assertRaises(BadField):
                field.keeps(one)


class MadeFieldsTests(PolyTests):
    def test_line_field(self):
        field = fields.line_field([parts_of("0 -1"), parts_of("1 0")])
        self.assertIsInstance(field, Field)
        self.assertEqual(field.polys, TURNING.polys)
        matrix = (parts_of("1 2 3"), parts_of("-1/2 0 5"), parts_of("0 0 0"))
        for kind in (list, tuple):
            field = fields.line_field(kind([kind(row) for row in matrix]))
            self.assertEqual(field.at(parts_of("1 1/2 -1")), parts_of("-1 -11/2 0"))
            self.assertEqual(field.degree(), 1)
        self.assertEqual(fields.line_field([[(0, 1)]]).polys, ({},))

    def test_line_fields_that_are_not_square_are_refused(self):
        for matrix in (
            [], (), [[]], [parts_of("1 2")], [parts_of("1"), parts_of("2")], [parts_of("1 2"), parts_of("1")],
            [parts_of("1 2"), parts_of("1 2"), parts_of("1 2")],
        ):
            with self.subTest(matrix), self.assertRaises(BadField):
                fields.line_field(matrix)

    def test_beside(self):
        for (one, mine), (other, its) in itertools.product(MOTIONS, MOTIONS):
            field = fields.beside(one, other)
            self.assertIsInstance(field, Field)
            self.assertEqual(field.size(), one.size() + other.size())
            self.assertEqual(field.at(mine + its), one.at(mine) + other.at(its))
            for tree in (TWO, (LEAF, TWO)):
                self.assertEqual(field.of_tree(tree, mine + its), one.of_tree(tree, mine) + other.of_tree(tree, its))
        self.assertEqual(
            fields.beside(GROWING, TURNING).polys, field_of("1*1.0.0", "-1*0.0.1", "1*0.1.0").polys
        )

    def test_fields_stay_as_they_were(self):
        before = (TURNING.shown(), HUNTING.shown())
        fields.beside(TURNING, HUNTING)
        HUNTING.of_tree((LEAF, TWO), parts_of("1 2"))
        with self.assertRaises(BadField):
            HUNTING.bent(parts_of("1 2"), [parts_of("1")])
        self.assertEqual((TURNING.shown(), HUNTING.shown()), before)


if __name__ == "__main__":
    unittest.main()
