"""Tests of stepwright.walks: point 16, and points 1 and 18 as far as they concern walks."""

import copy
import unittest
from fractions import Fraction

from stepwright import walks
from stepwright.errors import BadField, BadPaper, BadSize, StepFault
from stepwright.flows import step, steps
from stepwright.nodes import joined_pair
from stepwright.walks import Walk
from tests.known import (
    END, EULER, FOUR, GROWING, HUNTING, MIDDLE, ODD, RADAU, SQUARING, STEEP, STILL, THREE, TIMED, TRAPEZE, TURNING,
    TWO_END, are_tuples, as_part, field_of, fractions_of, parts_of,
)

ZERO, ONE, HALF, TWO = (0, 1), (1, 1), (1, 2), (2, 1)


def walk_of(table, others, numbers):
    """Read a walk: other weights, then the most, the shorter and the longer factor and the calm part."""
    return Walk(table, parts_of(others), *parts_of(numbers))


PAIR = walk_of(TWO_END, "1 0", "1/100 1/2 3/2 1/4")
# (walk, field, point, end, first length)
GOING = (
    (PAIR, GROWING, parts_of("1"), "1", "1"),
    (PAIR, TURNING, parts_of("1 0"), "3/2", "1/10"),
    (PAIR, TIMED, parts_of("0 2"), "1/2", "1/3"),
    (walk_of(TWO_END, "1 0", "1/10 1/3 1 1/2"), TURNING, parts_of("1 -1/2"), "2", "2"),
    (walk_of(THREE, "0 1 0", "1/50 1/2 2 1/3"), TURNING, parts_of("1 0"), "2", "1"),
    (walk_of(FOUR, "1/4 1/4 1/4 1/4", "1/20 2/3 5/4 9/10"), GROWING, parts_of("-2"), "3/2", "1"),
    (walk_of(EULER, "1", "1/9 1/2 2 1/2"), GROWING, parts_of("3"), "5", "1/3"),
    (PAIR, STILL, parts_of("1/5 7"), "3", "1/7"),
)


def gone(walk, field, point, time, end, length, tries):
    """Walk on by the rule of tries, with steps of the two tables and fractions."""
    pair = joined_pair(walk.table, walk.others)
    most, calm = Fraction(*walk.most), Fraction(*walk.calm)
    now, last, due = Fraction(*time), Fraction(*end), Fraction(*length)
    found = []
    while now < last and len(found) < tries:
        way = min(due, last - now)
        there = step(walk.table, field, point, as_part(way))
        its = step(pair, field, point, as_part(way))
        error = max(abs(a - b) for a, b in zip(fractions_of(there), fractions_of(its)))
        found.append((as_part(now), point, as_part(way), as_part(error), error <= most))
        if error <= most:
            now, point = now + way, there
        if error > most:
            due = way * Fraction(*walk.shorter)
        elif error <= most * calm:
            due = way * Fraction(*walk.longer)
        else:
            due = way
    return tuple(found)


class WalkTests(unittest.TestCase):
    def test_fields(self):
        walk = Walk(TWO_END, list(parts_of("1 0")), (1, 100), (1, 2), (3, 2), (1, 4))
        self.assertIs(walk.table, TWO_END)
        self.assertEqual(walk.others, parts_of("1 0"))
        self.assertTrue(are_tuples(walk.others))
        self.assertEqual((walk.most, walk.shorter, walk.longer, walk.calm), ((1, 100), (1, 2), (3, 2), (1, 4)))

    def test_rules_that_are_not_plain(self):
        for table in (END, MIDDLE, TRAPEZE, RADAU, ODD):
            with self.assertRaises(BadField):
                Walk(table, table.weights, ONE, HALF, TWO, HALF)

    def test_other_counts_of_weights(self):
        for others in ("", "1", "1 0 0"):
            with self.assertRaises(BadField):
                walk_of(TWO_END, others, "1 1/2 2 1/2")
            # The weights come ahead of the most.
            with self.assertRaises(BadField):
                walk_of(TWO_END, others, "0 1/2 2 1/2")

    def test_numbers_out_of_bounds(self):
        for numbers in (
            "0 1/2 2 1/2", "-1 1/2 2 1/2",                    # the most
            "1 0 2 1/2", "1 -1/2 2 1/2", "1 1 2 1/2", "1 3/2 2 1/2",      # shorter
            "1 1/2 99/100 1/2", "1 1/2 0 1/2", "1 1/2 -2 1/2",            # longer
            "1 1/2 2 0", "1 1/2 2 -1/2", "1 1/2 2 1", "1 1/2 2 2",        # the calm part
        ):
            with self.assertRaises(BadSize):
                walk_of(TWO_END, "1 0", numbers)
        for numbers in ("1 1/2 1 1/2", "1/1000 99/100 1 99/100", "5 1/100 9 1/100"):
            self.assertEqual(walk_of(TWO_END, "1 0", numbers).longer, parts_of(numbers)[2])

    def test_both(self):
        self.assertEqual(PAIR.both(GROWING, parts_of("2"), HALF), (parts_of("13/4"), (1, 4)))
        self.assertEqual(PAIR.both(TURNING, list(parts_of("1 0")), ONE), (parts_of("1/2 1"), (1, 2)))
        self.assertTrue(are_tuples(PAIR.both(TURNING, list(parts_of("1 0")), ONE)))
        for walk, field, point, end, length in GOING:
            for one in (HALF, (-1, 3), ZERO):
                there, error = walk.both(field, point, one)
                self.assertEqual(there, step(walk.table, field, point, one))
                its = step(joined_pair(walk.table, walk.others), field, point, one)
                due = max(abs(a - b) for a, b in zip(fractions_of(there), fractions_of(its)))
                self.assertEqual(error, as_part(due))

    def test_both_at_points_of_another_length(self):
        for point in ((), parts_of("1 2")):
            with self.assertRaises(BadField):
                PAIR.both(GROWING, point, HALF)

    def test_next_length(self):
        for error, due in (
            ("0", "3"), ("1/400", "3"), ("1/399", "2"), ("1/401", "3"), ("1/100", "2"), ("1/99", "1"), ("7", "1"),
        ):
            self.assertEqual((PAIR.next_length(TWO, parts_of(error)[0]),), parts_of(due))
        still = walk_of(TWO_END, "1 0", "1/100 1/2 1 1/4")
        self.assertEqual(still.next_length(TWO, ZERO), TWO)


class GoTests(unittest.TestCase):
    def test_tries_by_hand(self):
        # A step's error is half the length's square, times the letter.
        walk = walk_of(TWO_END, "1 0", "1/4 1/2 2 1/4")
        found = walk.go(GROWING, parts_of("2"), ZERO, (5, 4), ONE, 9)
        self.assertEqual(found, (
            (ZERO, parts_of("2"), ONE, ONE, False),
            (ZERO, parts_of("2"), HALF, (1, 4), True),                  # just the most
            (HALF, parts_of("13/4"), HALF, (13, 32), False),
            (HALF, parts_of("13/4"), (1, 4), (13, 128), True),
            ((3, 4), parts_of("533/128"), (1, 4), (533, 4096), True),
            (ONE, parts_of("21853/4096"), (1, 4), (21853, 131072), True),
        ))
        self.assertTrue(are_tuples(found))

    def test_an_error_of_just_the_calm_part(self):
        for most, due in (("1", "1"), ("101/100", "1"), ("99/100", "1/2")):
            walk = walk_of(TWO_END, "1 0", most + " 1/2 2 1/4")
            found = walk.go(GROWING, parts_of("2"), ZERO, (9, 1), HALF, 2)
            self.assertEqual(found[0][3:], ((1, 4), True))
            self.assertEqual((found[1][2],), parts_of(due))

    def test_against_another_way(self):
        for walk, field, point, end, length in GOING:
            last, first = parts_of(end)[0], parts_of(length)[0]
            found = walk.go(field, list(point), ZERO, last, first, 7)
            self.assertEqual(found, gone(walk, field, point, ZERO, last, first, 7))
            self.assertTrue(are_tuples(found))
            self.assertTrue(all(isinstance(row[4], bool) for row in found))

    def test_some_are_taken_and_some_are_not(self):
        kinds = set()
        for walk, field, point, end, length in GOING:
            kinds |= set(row[4] for row in walk.go(field, point, ZERO, parts_of(end)[0], parts_of(length)[0], 7))
        self.assertEqual(kinds, {True, False})

    def test_never_past_the_end(self):
        for walk, field, point, end, length in GOING:
            last = parts_of(end)[0]
            for row in walk.go(field, point, ZERO, last, parts_of(length)[0], 9):
                self.assertLessEqual(Fraction(*row[0]) + Fraction(*row[2]), Fraction(*last))
                self.assertGreater(Fraction(*row[2]), 0)

    def test_it_ends_just_at_the_end(self):
        found = PAIR.go(STILL, parts_of("1/5 7"), (1, 3), (2, 1), ONE, 50)
        self.assertEqual([row[2] for row in found], [ONE, (2, 3)])
        self.assertEqual(walks.lengths(found), (5, 3))

    def test_an_end_just_there_asks_no_tries(self):
        self.assertEqual(PAIR.go(GROWING, parts_of("1"), HALF, HALF, ONE, 5), ())
        self.assertEqual(PAIR.go(GROWING, parts_of("1"), ZERO, ONE, ONE, 0), ())

    def test_no_more_tries_than_told(self):
        whole = PAIR.go(GROWING, parts_of("1"), ZERO, ONE, ONE, 6)
        for tries in range(7):
            self.assertEqual(PAIR.go(GROWING, parts_of("1"), ZERO, ONE, ONE, tries), whole[:tries])

    def test_no_way(self):
        for time, end, length, tries in (
            (ONE, HALF, ONE, 5), (ZERO, (-1, 9), ONE, 5), (ZERO, ONE, ZERO, 5), (ZERO, ONE, (-1, 2), 5),
            (ZERO, ONE, ONE, -1), (ZERO, ZERO, ZERO, 5), (ONE, ONE, ONE, -2),
        ):
            with self.assertRaises(BadSize):
                PAIR.go(GROWING, parts_of("1"), time, end, length, tries)

    def test_points_of_another_length(self):
        for point in ((), parts_of("1 2")):
            with self.assertRaises(BadField):
                PAIR.go(GROWING, point, ZERO, ONE, HALF, 3)

    def test_it_stays_as_it_was(self):
        point = list(parts_of("1 0"))
        before = copy.deepcopy((point, TWO_END.shown(), PAIR.others, PAIR.most))
        rows = [list(row) for row in PAIR.go(TURNING, point, ZERO, ONE, HALF, 4)]
        kept = copy.deepcopy(rows)
        PAIR.check(TURNING, rows, ONE)
        with self.assertRaises(BadPaper):
            PAIR.check(TURNING, rows, (1, 9))
        self.assertEqual((point, TWO_END.shown(), PAIR.others, PAIR.most), before)
        self.assertEqual(rows, kept)


class EndTests(unittest.TestCase):
    def test_behind_tries(self):
        for walk, field, point, end, length in GOING:
            for tries in range(6):
                rows = walk.go(field, point, ZERO, parts_of(end)[0], parts_of(length)[0], tries)
                here, now = point, Fraction(0)
                for row in rows:
                    if row[4]:
                        here, now = step(walk.table, field, here, row[2]), now + Fraction(*row[2])
                found = walk.end_of(field, [list(row) for row in rows], ZERO, list(point))
                self.assertEqual(found, (as_part(now), here))
                self.assertTrue(are_tuples(found))

    def test_none(self):
        found = PAIR.end_of(TURNING, [], (7, 3), list(parts_of("1 2")))
        self.assertEqual(found, ((7, 3), parts_of("1 2")))
        self.assertTrue(are_tuples(found))

    def test_a_walk_goes_on_from_its_end(self):
        whole = PAIR.go(GROWING, parts_of("1"), ZERO, ONE, ONE, 8)
        first = whole[:5]
        time, point = PAIR.end_of(GROWING, first, ZERO, parts_of("1"))
        due = PAIR.next_length(first[-1][2], first[-1][3])
        self.assertEqual(PAIR.go(GROWING, point, time, ONE, due, 3), whole[5:])


class CheckTests(unittest.TestCase):
    def test_right(self):
        for walk, field, point, end, length in GOING:
            for tries in range(7):
                rows = walk.go(field, point, ZERO, parts_of(end)[0], parts_of(length)[0], tries)
                due = sum(1 for row in rows if row[4])
                self.assertEqual(walk.check(field, rows, parts_of(end)[0]), due)
                told = [(row[0], list(row[1])) + row[2:] for row in rows]
                self.assertEqual(walk.check(field, [list(row) for row in told], parts_of(end)[0]), due)

    def test_no_tries_at_all(self):
        self.assertEqual(PAIR.check(GROWING, (), ONE), 0)
        self.assertEqual(PAIR.check(GROWING, [], ZERO), 0)

    def test_it_may_begin_anywhere(self):
        rows = PAIR.go(GROWING, parts_of("1"), ZERO, ONE, ONE, 8)
        for at in range(len(rows)):
            self.assertEqual(PAIR.check(GROWING, rows[at:], ONE), sum(1 for row in rows[at:] if row[4]))

    def refused(self, rows, end=ONE):
        with self.assertRaises(BadPaper):
            PAIR.check(GROWING, rows, end)

    def test_changed_anywhere(self):
        rows = PAIR.go(GROWING, parts_of("1"), ZERO, ONE, ONE, 7)
        for at in range(1, len(rows)):
            time, point, length, error, taken = rows[at]
            for other in (
                (as_part(Fraction(*time) + Fraction(1, 99)), point, length, error, taken),
                (time, (as_part(Fraction(*point[0]) + 1),), length, error, taken),
                (time, point, as_part(Fraction(*length) / 2), error, taken),
                (time, point, length, as_part(Fraction(*error) + 1), taken),
                (time, point, length, ZERO, taken),
                (time, point, length, error, not taken),
            ):
                self.refused(rows[:at] + (other,) + rows[at + 1:])
                self.refused(rows[:at] + (other,))

    def test_a_try_left_out_or_told_twice(self):
        rows = PAIR.go(GROWING, parts_of("1"), ZERO, ONE, ONE, 7)
        for at in range(1, 6):
            self.refused(rows[:at] + rows[at + 1:])
            self.refused(rows[:at] + rows[at - 1:])
        self.refused(rows[::-1])

    def test_another_length_with_its_own_error(self):
        rows = PAIR.go(GROWING, parts_of("1"), ZERO, ONE, (1, 10), 2)
        length = as_part(Fraction(*rows[1][2]) / 2)
        error = PAIR.both(GROWING, rows[1][1], length)[1]
        self.assertEqual(PAIR.check(GROWING, [(rows[1][0], rows[1][1], length, error, True)], ONE), 1)
        self.refused([rows[0], (rows[1][0], rows[1][1], length, error, True)])

    def test_another_place_with_its_own_error(self):
        rows = PAIR.go(TURNING, parts_of("1 0"), ZERO, ONE, (1, 20), 2)
        point = parts_of("1/2 0")
        error = PAIR.both(TURNING, point, rows[1][2])[1]
        with self.assertRaises(BadPaper):
            PAIR.check(TURNING, [rows[0], (rows[1][0], point, rows[1][2], error, True)], ONE)
        with self.assertRaises(BadPaper):
            PAIR.check(TURNING, [rows[0], (rows[0][0],) + rows[1][1:]], ONE)

    def test_past_the_end(self):
        rows = PAIR.go(GROWING, parts_of("1"), ZERO, ONE, (1, 10), 2)
        self.assertEqual(PAIR.check(GROWING, rows[:1], (1, 10)), 1)
        self.refused(rows[:1], (1, 11))
        self.assertEqual(PAIR.check(GROWING, rows, (1, 5)), 2)
        self.refused(rows, (19, 100))

    def test_a_length_cut_by_another_end(self):
        # With a nearer end the second length would be what is left.
        rows = PAIR.go(GROWING, parts_of("1"), ZERO, ONE, (1, 20), 3)
        self.assertEqual([row[4] for row in rows], [True] * 3)
        nearer = as_part(Fraction(*rows[2][0]) + Fraction(*rows[2][2]) - Fraction(1, 1000))
        self.refused(rows, nearer)
        shorter = PAIR.go(GROWING, parts_of("1"), ZERO, nearer, (1, 20), 3)
        self.assertEqual(PAIR.check(GROWING, shorter, nearer), 3)
        self.refused(shorter, ONE)

    def test_points_of_another_length(self):
        with self.assertRaises(BadField):
            PAIR.check(GROWING, [(ZERO, parts_of("1 2"), HALF, ZERO, True)], ONE)
        # A try that leads elsewhere is told ahead of the one behind it.
        rows = PAIR.go(GROWING, parts_of("1"), ZERO, ONE, (1, 10), 2)
        self.refused([rows[0], (rows[1][0], parts_of("1 2")) + rows[1][2:]])


class RowsTests(unittest.TestCase):
    def test_taken_rows_errors_and_lengths(self):
        rows = (
            (ZERO, parts_of("2"), ONE, ONE, False),
            (ZERO, parts_of("2"), HALF, (1, 4), True),
            (HALF, parts_of("3"), (1, 3), (1, 2), False),
            (HALF, parts_of("3"), (1, 6), (1, 5), True),
        )
        self.assertEqual(walks.taken_rows(rows), rows[1::2])
        self.assertEqual(walks.greatest_error(rows), (1, 4))
        self.assertEqual(walks.lengths(rows), (2, 3))
        told = [[row[0], list(row[1]), row[2], row[3], row[4]] for row in rows]
        self.assertEqual(walks.taken_rows(told), rows[1::2])
        self.assertTrue(are_tuples(walks.taken_rows(told)))
        self.assertEqual(walks.greatest_error(told), (1, 4))
        self.assertEqual(walks.lengths(told), (2, 3))

    def test_none_taken(self):
        for rows in ((), [], ((ZERO, parts_of("2"), ONE, ONE, False),)):
            self.assertEqual(walks.taken_rows(rows), ())
            self.assertEqual(walks.greatest_error(rows), ZERO)
            self.assertEqual(walks.lengths(rows), ZERO)

    def test_of_walks(self):
        for walk, field, point, end, length in GOING:
            rows = walk.go(field, point, (1, 7), (5, 1), parts_of(length)[0], 6)
            time, there = walk.end_of(field, rows, (1, 7), point)
            self.assertEqual(Fraction(*walks.lengths(rows)), Fraction(*time) - Fraction(1, 7))
            self.assertLessEqual(Fraction(*walks.greatest_error(rows)), Fraction(*walk.most))


class EvenTests(unittest.TestCase):
    def test_by_hand(self):
        self.assertEqual(walks.even_walk(EULER, GROWING, parts_of("1"), ONE, 1), (parts_of("2"), parts_of("9/4"), (1, 4)))
        found = walks.even_walk(EULER, TURNING, list(parts_of("1 0")), ONE, 1)
        self.assertEqual(found, (parts_of("1 1"), parts_of("3/4 1"), (1, 4)))
        self.assertTrue(are_tuples(found))

    def test_against_steps(self):
        for table, field, point in (
            (TWO_END, TURNING, parts_of("1 -1/2")), (THREE, GROWING, parts_of("-3")), (EULER, HUNTING, parts_of("1/2 1")),
            (EULER, SQUARING, parts_of("1/3")), (EULER, STEEP, parts_of("0 1/2")),
        ):
            for count in range(3):
                there, finer, error = walks.even_walk(table, field, point, (1, 3), count)
                self.assertEqual(there, steps(table, field, point, (1, 3), count)[-1])
                self.assertEqual(finer, steps(table, field, point, (1, 6), 2 * count)[-1])
                due = max(abs(a - b) for a, b in zip(fractions_of(there), fractions_of(finer)))
                self.assertEqual(error, as_part(due))

    def test_none(self):
        found = walks.even_walk(FOUR, TURNING, list(parts_of("1 0")), ONE, 0)
        self.assertEqual(found, (parts_of("1 0"), parts_of("1 0"), ZERO))
        self.assertTrue(are_tuples(found))

    def test_refused(self):
        for count in (-1, -5):
            with self.assertRaises(BadSize):
                walks.even_walk(FOUR, GROWING, parts_of("1"), ONE, count)
            with self.assertRaises(BadSize):
                walks.even_walk(END, GROWING, parts_of("1"), ONE, count)
        for table in (END, TRAPEZE, RADAU):
            for count in (0, 2):
                with self.assertRaises(BadField):
                    walks.even_walk(table, GROWING, parts_of("1"), ONE, count)
        with self.assertRaises(BadField):
            walks.even_walk(EULER, GROWING, parts_of("1 2"), ONE, 1)

    def test_no_error_where_the_rule_is_exact(self):
        field = field_of("1*0.0", "1*1.0")
        self.assertEqual(walks.even_walk(TWO_END, field, parts_of("0 0"), ONE, 3)[2], ZERO)

    def test_they_are_step_faults(self):
        with self.assertRaises(StepFault):
            walks.even_walk(EULER, GROWING, parts_of("1"), ONE, -1)


if __name__ == "__main__":
    unittest.main()
