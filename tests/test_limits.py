"""Tests of stepwright.limits: point 12, and points 1 and 18 as far as they concern limits."""

import copy
import itertools
import unittest
from fractions import Fraction

from stepwright import limits
from stepwright.curves import curve, multiplied, put_in, shared_curve, worth
from stepwright.errors import BadPaper, BadPart, BadSize, BadTable, StepFault
from stepwright.flows import step, step_rows
from stepwright.limits import growth
from stepwright.tables import behind, turned_back
from tests.known import (
    END, EULER, FOUR, FOUR_EIGHTHS, GROWING, LOBATTO, MIDDLE, ODD, ORDERS, RADAU, RULES, SIX, STEPWISE, THREE,
    THREE_THIRDS, TRAPEZE, TWO_END, TWO_MIDDLE, TWO_THIRDS, are_tuples, as_part, fractions_of, parts_of, table_of,
)

PLACES = tuple(as_part(Fraction(top, low)) for top in range(-7, 8) for low in (2, 3))
NONE = ((), ((1, 1),))
ONE = (((1, 1),), ((1, 1),))


def share_of(top, low):
    return (parts_of(top), parts_of(low))


# (rule, top, low)
GROWTHS = (
    (EULER, "1 1", "1"),
    (END, "1", "1 -1"),
    (MIDDLE, "1 1/2", "1 -1/2"),
    (TRAPEZE, "1 1/2", "1 -1/2"),
    (TWO_MIDDLE, "1 1 1/2", "1"),
    (TWO_END, "1 1 1/2", "1"),
    (TWO_THIRDS, "1 1 1/2", "1"),
    (RADAU, "1 1/3", "1 -2/3 1/6"),
    (LOBATTO, "1 1/2 1/12", "1 -1/2 1/12"),
    (THREE, "1 1 1/2 1/6", "1"),
    (THREE_THIRDS, "1 1 1/2 1/6", "1"),
    (FOUR, "1 1 1/2 1/6 1/24", "1"),
    (FOUR_EIGHTHS, "1 1 1/2 1/6 1/24", "1"),
    (STEPWISE, "1 5/12 1/12", "1 -7/12 1/12"),
)


def answered(rows, due):
    """Solve a square of fractions by exchanging and taking away rows; None where there isn't just one answer."""
    rows = [list(row) + [one] for row, one in zip(rows, due)]
    for at in range(len(rows)):
        good = [k for k in range(at, len(rows)) if rows[k][at] != 0]
        if not good:
            return None
        rows[at], rows[good[0]] = rows[good[0]], rows[at]
        for k in range(len(rows)):
            if k != at:
                by = rows[k][at] / rows[at][at]
                rows[k] = [mine - by * its for mine, its in zip(rows[k], rows[at])]
    return [row[-1] / row[at] for at, row in enumerate(rows)]


def growth_at(table, at):
    """Tell a rule's growth by its stages' slopes on the line; None where they can't be told."""
    by = Fraction(*at)
    size = table.stages()
    rows = [
        [Fraction(1 if a == b else 0) - by * Fraction(*table.shares[a][b]) for b in range(size)] for a in range(size)
    ]
    slopes = answered(rows, [Fraction(1)] * size)
    if slopes is None:
        return None
    return 1 + by * sum(weight * slope for weight, slope in zip(fractions_of(table.weights), slopes))


def of_square(rows):
    """Tell a square's sum over all orders of columns, signs by how often they fall."""
    found = Fraction(0)
    for columns in itertools.permutations(range(len(rows))):
        falls = sum(1 for a, b in itertools.combinations(columns, 2) if a > b)
        one = Fraction((-1) ** falls)
        for row, column in zip(rows, columns):
            one *= row[column]
        found += one
    return found


class GrowthTests(unittest.TestCase):
    def test_known_growths(self):
        for table, top, low in GROWTHS:
            found = growth(table)
            self.assertEqual(found, share_of(top, low))
            self.assertTrue(are_tuples(found))

    def test_it_is_the_step_of_a_line(self):
        for table in RULES:
            if table.is_plain():
                for at in PLACES:
                    self.assertEqual((limits.grown_by(growth(table), at),), step(table, GROWING, parts_of("1"), at))

    def test_it_is_the_stages_of_a_line(self):
        for table in RULES:
            share = growth(table)
            for at in PLACES:
                due = growth_at(table, at)
                if due is not None:
                    self.assertEqual(limits.grown_by(share, at), as_part(due))

    def test_its_row_is_the_steps_row(self):
        for table in RULES:
            top, low = growth(table)
            row = step_rows(table, GROWING, parts_of("1"), 8)[0]
            self.assertEqual(curve(multiplied(low, row)[:9]), curve(top[:9]))

    def test_nothing_in_common_and_the_low_one_at_nought(self):
        for table in RULES + (
            behind(END, EULER, (1, 2)), behind(TRAPEZE, turned_back(TRAPEZE), (1, 2)),
            table_of("0 0; 0 1", "1 0"), table_of("1 0; 0 0", "0 1"), table_of("1 1; 0 2", "1/2 1/2"),
        ):
            top, low = growth(table)
            self.assertEqual(low[0], (1, 1))
            self.assertEqual(top[0], (1, 1))
            self.assertEqual(shared_curve(top, low), parts_of("1"))

    def test_something_in_common_before(self):
        # The second stage hangs on itself and isn't asked.
        self.assertEqual(growth(table_of("0 0; 0 1", "1 0")), share_of("1 1", "1"))
        self.assertEqual(growth(table_of("0 0; 3 1", "1 0")), share_of("1 1", "1"))
        # A step of half the length and back: the end rule undone is the plain one.
        self.assertEqual(growth(behind(END, table_of("0", "-1"), (1, 2))), ONE)

    def test_undone_the_letter_is_turned_about(self):
        for table in RULES:
            self.assertEqual(growth(turned_back(table)), limits.back_share(growth(table)))

    def test_the_table_stays(self):
        before = copy.deepcopy(ODD.shown())
        growth(ODD)
        self.assertEqual(ODD.shown(), before)


class MinorTests(unittest.TestCase):
    def test_none_is_one(self):
        self.assertEqual(limits.minor([]), parts_of("1"))
        self.assertEqual(limits.minor(()), parts_of("1"))

    def test_by_hand(self):
        one, letter = parts_of("1"), parts_of("0 1")
        self.assertEqual(limits.minor([[letter]]), letter)
        self.assertEqual(limits.minor([[letter, one], [one, letter]]), parts_of("-1 0 1"))
        self.assertEqual(limits.minor([[one, letter], [one, letter]]), ())
        self.assertEqual(limits.minor(((letter, ()), (one, letter))), parts_of("0 0 1"))
        self.assertEqual(limits.minor([[(), ()], [one, letter]]), ())

    def test_against_all_orders_of_columns(self):
        cells = [parts_of(text) for text in ("1 2", "", "0 -1", "3", "1/2 0 1", "-1", "0 0 2", "1 -1", "5/3")]
        for size in range(1, 5):
            for turn in range(6):
                rows = [[cells[(a * a + turn * b + 3 * a * b + turn) % 9] for b in range(size)] for a in range(size)]
                found = limits.minor(rows)
                self.assertTrue(are_tuples(found))
                for at in ((0, 1), (2, 1), (-1, 3), (7, 2)):
                    due = of_square([[Fraction(*worth(one, at)) for one in row] for row in rows])
                    self.assertEqual(worth(found, at), as_part(due))

    def test_cells(self):
        self.assertEqual(limits.cell_of(TRAPEZE, 0, 0, False), parts_of("1"))
        self.assertEqual(limits.cell_of(TRAPEZE, 1, 0, False), parts_of("0 -1/2"))
        self.assertEqual(limits.cell_of(TRAPEZE, 1, 1, False), parts_of("1 -1/2"))
        self.assertEqual(limits.cell_of(TRAPEZE, 0, 1, False), ())
        self.assertEqual(limits.cell_of(TRAPEZE, 0, 1, True), parts_of("0 1/2"))
        self.assertEqual(limits.cell_of(TRAPEZE, 1, 0, True), ())
        self.assertEqual(limits.cell_of(ODD, 1, 0, True), parts_of("0 -1/21"))
        self.assertEqual(limits.cell_of(ODD, 0, 0, True), parts_of("1 1/3"))


class WorthTests(unittest.TestCase):
    def test_by_hand(self):
        self.assertEqual(limits.grown_by(share_of("1 1", "1 -1/2"), (1, 1)), (4, 1))
        self.assertEqual(limits.grown_by((list(parts_of("1 1")), list(parts_of("1 -1/2"))), (-1, 1)), (0, 1))
        self.assertEqual(limits.grown_by(NONE, (5, 1)), (0, 1))

    def test_where_the_low_is_nought(self):
        for share, at in ((growth(END), (1, 1)), (growth(MIDDLE), (2, 1)), (share_of("1", "1 0 -1/4"), (-2, 1))):
            with self.assertRaises(BadPart):
                limits.grown_by(share, at)


class FollowsTests(unittest.TestCase):
    def test_known_ones(self):
        for table, due in (
            (EULER, 1), (END, 1), (MIDDLE, 2), (TWO_END, 2), (TRAPEZE, 2), (RADAU, 3), (THREE, 3), (LOBATTO, 4),
            (FOUR, 4), (SIX, 5), (STEPWISE, 1),
        ):
            self.assertEqual(limits.follows_to(growth(table), 10), due)

    def test_it_is_no_less_than_the_order(self):
        for name, table, order in ORDERS:
            self.assertGreaterEqual(limits.follows_to(growth(table), 10), order, name)

    def test_no_more_than_told(self):
        for most in range(0, 6):
            self.assertEqual(limits.follows_to(growth(LOBATTO), most), min(most, 4))

    def test_its_row_so_far(self):
        for share, due in (
            (share_of("1", "1"), 0), (share_of("2", "1"), -1), (NONE, -1), (share_of("1 1", "1"), 1),
            (share_of("1 1 1/2 1/6", "1"), 3), (share_of("1 1 1/2 1/6 0 1/120", "1"), 3),
            (share_of("0 1", "1"), -1), (share_of("1 1 1/3", "1"), 1), (share_of("1 1 1/2", "1 0 0 1"), 2),
        ):
            self.assertEqual(limits.follows_to(share, 9), due)

    def test_below_nought(self):
        for most in (-1, -2):
            with self.assertRaises(BadSize):
                limits.follows_to(ONE, most)


class SquaresTests(unittest.TestCase):
    def test_by_hand(self):
        self.assertEqual(limits.squares(parts_of("1 1")), parts_of("1 1"))
        self.assertEqual(limits.squares(parts_of("1 0 1")), parts_of("1 -2 1"))
        self.assertEqual(limits.squares(parts_of("0 0 0 2")), parts_of("0 0 0 4"))
        self.assertEqual(limits.squares(()), ())
        self.assertEqual(limits.squares(list(parts_of("-3"))), parts_of("9"))

    def test_against_sizes_in_the_plane(self):
        for text in ("1 2 3", "1/2 -1 0 4 -2/3", "0 1 1 1 1 1 1", "5 0 0 0 0 0 0 1", "1 1 1/2 1/6 1/24"):
            one = parts_of(text)
            found = limits.squares(one)
            self.assertTrue(are_tuples(found))
            for at in range(-4, 5):
                along = sum(Fraction(*part) * at ** k * (1, 0, -1, 0)[k % 4] for k, part in enumerate(one))
                across = sum(Fraction(*part) * at ** k * (0, 1, 0, -1)[k % 4] for k, part in enumerate(one))
                self.assertEqual(worth(found, (at * at, 1)), as_part(along ** 2 + across ** 2))


class CalmTests(unittest.TestCase):
    def test_on_turns(self):
        for share, due in (
            (growth(EULER), False), (growth(END), True), (growth(MIDDLE), True), (growth(LOBATTO), True),
            (growth(RADAU), True), (growth(TWO_END), False), (growth(THREE), False), (growth(FOUR), False),
            (growth(STEPWISE), True), (growth(turned_back(END)), False), (ONE, True), (NONE, True),
            (share_of("-1", "1"), True), (share_of("1 1", "1 1"), True), (share_of("2", "1"), False),
            (share_of("1/2", "1"), True), (share_of("1/2 1", "1 1"), True), (share_of("1/2 2", "1 1"), False),
            # Greater only in the midst, and only far out.
            (share_of("1", "1 0 1/4"), False), (share_of("1/2 0 0 1", "1 0 0 1/2"), False),
            (share_of("2", "1 3"), False), (share_of("1 3", "1 3 1/9"), False),
        ):
            self.assertEqual(limits.calm_on_turns(share), due)
            self.assertEqual(limits.calm_on_turns([list(one) for one in share]), due)

    def test_just_one_everywhere(self):
        for table in (MIDDLE, TRAPEZE, LOBATTO):
            share = growth(table)
            self.assertEqual(limits.squares(share[0]), limits.squares(share[1]))

    def test_four_stages_are_calm_on_turns_up_to_a_square_of_eight_only(self):
        top, low = growth(FOUR)
        for at, due in (((0, 1), 0), ((8, 1), 0), ((7, 1), -1), ((81, 10), 1)):
            difference = Fraction(*worth(limits.squares(top), at)) - Fraction(*worth(limits.squares(low), at))
            self.assertEqual((difference > 0) - (difference < 0), due)

    def test_between(self):
        for share, low, high, due in (
            (growth(EULER), "-2", "0", True), (growth(EULER), "-201/100", "0", False),
            (growth(EULER), "-2", "1/100", False), (growth(EULER), "-1", "-1", True), (growth(EULER), "1", "1", False),
            (growth(END), "-50", "0", True), (growth(END), "0", "1/2", False),
            (growth(END), "2", "9", True), (growth(END), "3/2", "9", False),
            (growth(MIDDLE), "-9", "0", True), (growth(MIDDLE), "-9", "1/100", False),
            (growth(FOUR), "-5/2", "0", True), (growth(FOUR), "-3", "0", False), (growth(FOUR), "-3", "-29/10", False),
            (growth(TWO_END), "-2", "0", True), (growth(TWO_END), "-21/10", "0", False),
            (growth(TWO_END), "-3", "-5/2", False),
            (ONE, "-9", "9", True), (NONE, "-9", "9", True), (share_of("-1", "1"), "-9", "9", True),
            # Greater than one only in the midst.
            (share_of("0 9/4 -3/2", "1"), "0", "3/2", True), (share_of("0 5 -5", "1"), "0", "1", False),
        ):
            self.assertEqual(limits.calm_between(share, parts_of(low)[0], parts_of(high)[0]), due, (share, low, high))

    def test_the_low_nought_between(self):
        # The top is nought there too, so that the share would be no greater than one all around.
        share = share_of("0 1", "0 2")
        for low, high, due in (
            ("-1", "1", False), ("0", "1", False), ("-1", "0", False), ("0", "0", False), ("1/2", "1", True),
            ("-1", "-1/2", True),
        ):
            self.assertEqual(limits.calm_between(share, parts_of(low)[0], parts_of(high)[0]), due)
        self.assertFalse(limits.calm_between(growth(END), (1, 1), (1, 1)))
        self.assertFalse(limits.calm_between(growth(END), (1, 1), (5, 1)))

    def test_high_below_low(self):
        for share in (growth(EULER), growth(END), ONE, NONE):
            for low, high in (((1, 1), (0, 1)), ((0, 1), (-1, 1)), ((1, 2), (1, 3))):
                with self.assertRaises(BadSize):
                    limits.calm_between(share, low, high)

    def test_down_to(self):
        for share, steps, most, due in (
            (growth(EULER), (1, 2), 10, 4), (growth(EULER), (1, 2), 3, 3), (growth(EULER), (1, 2), 4, 4),
            (growth(EULER), (1, 2), 0, 0), (growth(EULER), (2, 1), 10, 1), (growth(EULER), (21, 10), 10, 0),
            (growth(EULER), (2, 3), 10, 3), (growth(END), (7, 1), 10, 10), (growth(FOUR), (1, 2), 20, 5),
            (growth(FOUR), (1, 4), 20, 11), (growth(THREE), (1, 2), 20, 5), (growth(TWO_END), (1, 10), 30, 20),
            (growth(turned_back(END)), (1, 2), 8, 4), (share_of("1 -1", "1"), (1, 5), 8, 0),
            (share_of("1", "1 1"), (1, 5), 8, 0), (ONE, (1, 5), 8, 8), (share_of("2", "1"), (1, 5), 8, 0),
            # Calm at the ends of a step and not between them.
            (share_of("1", "1 4"), (1, 2), 8, 0), (share_of("1 0 -14 -14", "1"), (1, 1), 1, 0),
        ):
            self.assertEqual(limits.calm_down_to(share, steps, most), due, (share, steps, most))

    def test_down_to_is_calm_between(self):
        for table in (EULER, TWO_END, THREE, FOUR, SIX, ODD, STEPWISE, RADAU):
            share = growth(table)
            found = limits.calm_down_to(share, (1, 3), 12)
            for count in range(1, 13):
                calm = limits.calm_between(share, as_part(Fraction(-count, 3)), (0, 1))
                self.assertEqual(calm, count <= found)

    def test_down_to_with_no_length(self):
        for steps, most in (((0, 1), 5), ((-1, 2), 5), ((1, 2), -1), ((0, 1), 0)):
            with self.assertRaises(BadSize):
                limits.calm_down_to(growth(EULER), steps, most)

    def test_far_out(self):
        for share, due in (
            (growth(EULER), False), (growth(END), True), (growth(MIDDLE), False), (growth(RADAU), True),
            (growth(LOBATTO), False), (growth(FOUR), False), (growth(STEPWISE), False), (ONE, False), (NONE, True),
            (share_of("1", "1 0 1"), True), (share_of("1 0 0 1", "1 0 1"), False),
        ):
            self.assertEqual(limits.shrinks_far(share), due)


class SharesTests(unittest.TestCase):
    def test_back_by_hand(self):
        self.assertEqual(limits.back_share(growth(EULER)), share_of("1", "1 -1"))
        self.assertEqual(limits.back_share(growth(END)), share_of("1 1", "1"))
        self.assertEqual(limits.back_share(growth(MIDDLE)), growth(MIDDLE))
        self.assertEqual(limits.back_share(share_of("2 1", "1 3")), share_of("1/2 -3/2", "1 -1/2"))
        self.assertTrue(are_tuples(limits.back_share([list(one) for one in growth(MIDDLE)])))

    def test_back_twice(self):
        for table in RULES:
            share = growth(table)
            self.assertEqual(limits.back_share(limits.back_share(share)), share)

    def test_back_without_growth(self):
        with self.assertRaises(BadTable):
            limits.back_share(NONE)
        with self.assertRaises(BadPart):
            limits.back_share(share_of("0 1", "1"))

    def test_behind_is_a_table_put_behind(self):
        half = parts_of("0 1/2")
        for first, second in itertools.product((EULER, END, TRAPEZE, RADAU, THREE), (END, MIDDLE, STEPWISE, ODD)):
            halves = [tuple(put_in(one, half) for one in growth(table)) for table in (first, second)]
            self.assertEqual(limits.behind_share(*halves), growth(behind(first, second, (1, 2))))

    def test_behind_has_nothing_in_common(self):
        self.assertEqual(limits.behind_share(growth(END), share_of("1 -1", "1")), ONE)
        self.assertEqual(limits.behind_share(share_of("1 2", "1 3"), share_of("1 3 0", "1 2")), ONE)
        self.assertEqual(limits.behind_share(share_of("2", "4 4"), share_of("1 1", "1")), share_of("1/2", "1"))
        self.assertEqual(limits.behind_share(NONE, growth(END)), NONE)
        found = limits.behind_share([list(one) for one in growth(END)], growth(EULER))
        self.assertEqual(found, share_of("1 1", "1 -1"))
        self.assertTrue(are_tuples(found))

    def test_behind_where_the_low_is_nought_at_nought(self):
        with self.assertRaises(BadPart):
            limits.behind_share(share_of("1", "0 1"), ONE)

    def test_so_many_steps(self):
        self.assertEqual(limits.power_share(growth(END), 0), ONE)
        self.assertEqual(limits.power_share(NONE, 0), ONE)
        self.assertEqual(limits.power_share(growth(END), 1), growth(END))
        self.assertEqual(limits.power_share(growth(END), 3), share_of("1", "1 -3 3 -1"))
        self.assertEqual(limits.power_share(growth(EULER), 2), share_of("1 2 1", "1"))
        for table in (EULER, MIDDLE, RADAU, ODD):
            for count in range(5):
                share = limits.power_share(growth(table), count)
                self.assertTrue(are_tuples(share))
                for at in ((-1, 2), (-3, 1), (1, 5)):
                    due = Fraction(*limits.grown_by(growth(table), at)) ** count
                    self.assertEqual(limits.grown_by(share, at), as_part(due))

    def test_steps_below_nought(self):
        for count in (-1, -2):
            with self.assertRaises(BadSize):
                limits.power_share(ONE, count)

    def test_root_count(self):
        for share, due in (
            (growth(EULER), 0), (growth(END), 1), (growth(RADAU), 0), (growth(MIDDLE), 1), (share_of("1", "1 0 -1"), 2),
            (limits.power_share(growth(END), 3), 1), (share_of("1 1", "-6 11 -6 1"), 3),
        ):
            self.assertEqual(limits.root_count(share), due)
        with self.assertRaises(BadSize):
            limits.root_count((parts_of("1"), ()))


class PaperTests(unittest.TestCase):
    def test_right(self):
        for share, points in (
            (growth(EULER), "-2 -1 0"), (growth(END), "-9 0 2 3"), (growth(MIDDLE), "0 -1 -7"), (growth(EULER), ""),
            (NONE, "1 2 3"), (ONE, "-5 5"),
        ):
            self.assertIs(limits.check_calm(share, parts_of(points)), True)
            self.assertIs(limits.check_calm(share, list(parts_of(points))), True)

    def test_grown(self):
        for share, points in (
            (growth(EULER), "1/100"), (growth(EULER), "-1 -2 -201/100"), (growth(END), "0 1/2"), (growth(END), "3/2"),
            (growth(FOUR), "-2 -3"), (share_of("-2", "1"), "0"),
        ):
            with self.assertRaises(BadPaper):
                limits.check_calm(share, parts_of(points))

    def test_without_growth(self):
        for share, points in (
            (growth(END), "0 1"), (growth(MIDDLE), "2"), (share_of("0 1", "0 2"), "0"), (growth(END), "1 1/2"),
        ):
            with self.assertRaises(BadPaper):
                limits.check_calm(share, parts_of(points))

    def test_they_are_step_faults(self):
        with self.assertRaises(StepFault):
            limits.check_calm(growth(EULER), [(1, 1)])


if __name__ == "__main__":
    unittest.main()
