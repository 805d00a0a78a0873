"""Tests of stepwright.splits: point 14, and point 1 as far as it concerns splits."""

import copy
import itertools
import math
import unittest
from fractions import Fraction

from stepwright import matrices, splits
from stepwright.errors import BadPart, BadSize, BadTable, StepFault
from tests.known import are_tuples, as_part, parts_of


def turns_of(text):
    """Read turns: letters and parts in turn, with blanks between."""
    words = text.split()
    return tuple((letter, as_part(one)) for letter, one in zip(words[::2], words[1::2]))


ONE_OF_EACH = turns_of("a 1 b 1")
EVEN = turns_of("a 1/2 b 1 a 1/2")
THREE = turns_of("a 7/24 b 2/3 a 3/4 b -2/3 a -1/24 b 1")
ODD = turns_of("b 2/3 a -1 b 1/2 a 3")
# Three to the third, four and five to it are six to it: the third powers of all parts are nought in all.
CUBES = parts_of("1/2 2/3 5/6 -1")
CUBES_AND_BACK = parts_of("1/4 1/3 5/12 -1/2 -1/2 5/12 1/3 1/4")
LOTS = (ONE_OF_EACH, EVEN, THREE, ODD, turns_of("a 1"), turns_of("b -2"), turns_of("a 0 b 0"), turns_of("a 1 a 1 b 3"))


def part_by_choosing(turns, word):
    """Tell a word's part by all ways to choose its letters from turns, each from its own or a later one."""
    found = Fraction(0)
    for way in itertools.combinations_with_replacement(range(len(turns)), len(word)):
        if all(turns[turn][0] == letter for turn, letter in zip(way, word)):
            one = Fraction(1)
            for turn in set(way):
                one *= Fraction(*turns[turn][1]) ** way.count(turn) / math.factorial(way.count(turn))
            found += one
    return as_part(found)


class TurnsTests(unittest.TestCase):
    def test_check_turns(self):
        found = splits.check_turns([["a", (2, 4)], ("b", (3, -3))])
        self.assertEqual(found, turns_of("a 1/2 b -1"))
        self.assertTrue(are_tuples(found))
        for turns in LOTS:
            self.assertEqual(splits.check_turns(turns), turns)

    def test_other_letters_and_no_turns(self):
        for turns in ((), [], turns_of("c 1"), turns_of("a 1 c 1"), turns_of("A 1"), (("", (1, 1)),), turns_of("ab 1")):
            for deed in (
                splits.check_turns,
                lambda one: splits.of_turns(one, 3),
                lambda one: splits.order_of(one, 3),
                splits.together,
                splits.back_turns,
                splits.is_even_turns,
                lambda one: splits.scaled_turns(one, (1, 2)),
                lambda one: splits.raised_order(one, [(1, 1)]),
                lambda one: splits.greatest_word(one, 2),
                splits.letters_of,
                # The turns come ahead of the count.
                lambda one: splits.of_turns(one, 8),
            ):
                with self.assertRaises(BadTable):
                    deed(turns)

    def test_parts_by_nought(self):
        for turns in ([("a", (1, 0))], [("a", (1, 1)), ("c", (0, 0))]):
            with self.assertRaises(BadPart):
                splits.check_turns(turns)

    def test_what_is_handed_in_stays(self):
        turns, parts = [["a", (1, 2)], ["a", (1, 2)], ["b", (1, 1)]], [(1, 2), (1, 2)]
        before = copy.deepcopy((turns, parts))
        splits.of_turns(turns, 3)
        splits.together(turns)
        splits.raised_order(turns, parts)
        with self.assertRaises(BadSize):
            splits.of_turns(turns, 8)
        self.assertEqual((turns, parts), before)

    def test_together(self):
        for turns, due in (
            ("a 1", "a 1"), ("a 1/2 a 1/2 b 1", "a 1 b 1"), ("a 1 b 0 a 2", "a 3"), ("a 1 a -1 b 2", "b 2"),
            ("a 1 b 2 b -2 a 3 b 1", "a 4 b 1"), ("b 2 a 1 b 1 b -1 a -1 b 5", "b 7"), ("a 0 b 1", "b 1"),
            ("b 1 a 0", "b 1"), ("a 1 b 1 a 0 b 2 a 3", "a 1 b 3 a 3"), ("a 1 b 1 a 1", "a 1 b 1 a 1"),
            ("b 1 b 1 b 1", "b 3"), ("a 1 b 1 b -1 a -1 b 3 a 0", "b 3"),
        ):
            found = splits.together([list(turn) for turn in turns_of(turns)])
            self.assertEqual(found, turns_of(due))
            self.assertTrue(are_tuples(found))

    def test_together_with_none_left(self):
        for turns in ("a 0", "a 1 a -1", "b 1 a 0 b -1", "a 1 b 2 b -2 a -1", "a 0 b 0"):
            with self.assertRaises(BadTable):
                splits.together(turns_of(turns))
            with self.assertRaises(BadTable):
                splits.is_even_turns(turns_of(turns))

    def test_together_is_the_same_by_words(self):
        for turns in (turns_of("a 1 b 2 b -2 a 3 b 1"), turns_of("b 1/2 a 1 b 0 a 1/3"), ODD + ODD, EVEN + EVEN):
            self.assertEqual(splits.of_turns(splits.together(turns), 5), splits.of_turns(turns, 5))

    def test_back(self):
        self.assertEqual(splits.back_turns([list(turn) for turn in EVEN]), turns_of("a -1/2 b -1 a -1/2"))
        self.assertEqual(splits.back_turns(ODD), turns_of("a -3 b -1/2 a 1 b -2/3"))
        self.assertTrue(are_tuples(splits.back_turns([list(turn) for turn in EVEN])))
        for turns in LOTS:
            self.assertEqual(splits.back_turns(splits.back_turns(turns)), turns)
            both = splits.of_turns(turns + splits.back_turns(turns), 5)
            self.assertEqual(both, {word: (0 if word else 1, 1) for word in splits.words_of(5)})

    def test_even_turns(self):
        for turns, due in (
            (EVEN, True), (ONE_OF_EACH, False), (THREE, False), (turns_of("a 1"), True), (EVEN + EVEN, True),
            (turns_of("a 1/4 a 1/4 b 1 a 1/2"), True), (turns_of("a 1 b 1 a 0"), False),
            (turns_of("b 0 a 1 b 1 a 1"), True), (turns_of("a 1 b 1 a 2"), False), (ONE_OF_EACH[::-1] * 2, False),
            (turns_of("a 1 b 2 a -1 b 2 a 1"), True),
        ):
            self.assertEqual(splits.is_even_turns([list(turn) for turn in turns]), due)

    def test_even_ones_have_even_orders(self):
        for turns in (EVEN, EVEN[::-1], turns_of("b 1/6 a 1/2 b 2/3 a 1/2 b 1/6"), turns_of("a 2 b 1/2 a -3 b 1/2 a 2")):
            self.assertTrue(splits.is_even_turns(turns))
            self.assertEqual(splits.order_of(turns, 7) & 1, 0)

    def test_scaled(self):
        self.assertEqual(splits.scaled_turns([list(turn) for turn in EVEN], (-2, 3)), turns_of("a -1/3 b -2/3 a -1/3"))
        self.assertTrue(are_tuples(splits.scaled_turns([list(turn) for turn in EVEN], (1, 2))))
        for turns in LOTS:
            told = splits.of_turns(turns, 4)
            longer = splits.of_turns(splits.scaled_turns(turns, (-3, 2)), 4)
            for word in told:
                self.assertEqual(longer[word], as_part(Fraction(*told[word]) * Fraction(-3, 2) ** len(word)))

    def test_letters(self):
        for turns, due in (
            (EVEN, "1 1"), (THREE, "1 1"), (ODD, "2 7/6"), (turns_of("a 3"), "3 0"), (turns_of("b -1 b 1/2"), "0 -1/2"),
        ):
            found = splits.letters_of([list(turn) for turn in turns])
            self.assertEqual(found, parts_of(due))
            self.assertTrue(are_tuples(found))


class WordsTests(unittest.TestCase):
    def test_words(self):
        self.assertEqual(splits.words_of(0), ("",))
        self.assertEqual(splits.words_of(1), ("", "a", "b"))
        self.assertEqual(splits.words_of(2), ("", "a", "b", "aa", "ab", "ba", "bb"))
        for count in range(8):
            found = splits.words_of(count)
            due = ["".join(letters) for size in range(count + 1) for letters in itertools.product("ab", repeat=size)]
            self.assertEqual(found, tuple(due))

    def test_words_past_seven(self):
        for count in (8, 9, 30, -1, -2):
            for deed in (
                splits.words_of,
                splits.both_at_once,
                lambda one: splits.of_turns(EVEN, one),
                lambda one: splits.order_of(EVEN, one),
                lambda one: splits.greatest_word(EVEN, one),
            ):
                with self.assertRaises(BadSize):
                    deed(count)

    def test_one_turn(self):
        found = splits.one_turn("b", (-2, 3), 4)
        self.assertEqual(found, {"": (1, 1), "b": (-2, 3), "bb": (2, 9), "bbb": (-4, 81), "bbbb": (2, 243)})
        self.assertEqual(splits.one_turn("a", (5, 1), 0), {"": (1, 1)})
        self.assertEqual(splits.one_turn("a", (0, 1), 2), {"": (1, 1), "a": (0, 1), "aa": (0, 1)})

    def test_put_behind(self):
        first = {"": (1, 1), "a": (2, 1), "b": (1, 3)}
        second = {"": (1, 1), "b": (5, 1), "bb": (1, 2)}
        before = copy.deepcopy((first, second))
        self.assertEqual(splits.put_behind(first, second, 2), {
            "": (1, 1), "a": (2, 1), "b": (16, 3), "ab": (10, 1), "bb": (13, 6),
        })
        self.assertEqual(splits.put_behind(first, second, 3)["abb"], (1, 1))
        self.assertEqual(splits.put_behind(first, second, 0), {"": (1, 1)})
        self.assertEqual((first, second), before)

    def test_put_behind_is_the_turns_behind(self):
        for first, second in itertools.product(LOTS, LOTS):
            both = splits.put_behind(splits.of_turns(first, 3), splits.of_turns(second, 3), 3)
            self.assertEqual(both, splits.of_turns(first + second, 3))

    def test_words_parts_by_choosing_letters(self):
        for turns in LOTS:
            found = splits.of_turns([list(turn) for turn in turns], 5)
            self.assertEqual(list(found), list(splits.words_of(5)))
            for word in found:
                self.assertEqual(found[word], part_by_choosing(turns, word))

    def test_seven_letters(self):
        found = splits.of_turns(EVEN, 7)
        self.assertEqual(list(found), list(splits.words_of(7)))
        self.assertEqual(found["abbbbba"], (1, 480))
        self.assertEqual(found["ababaaa"], (0, 1))
        self.assertEqual(found["aabbaaa"], part_by_choosing(EVEN, "aabbaaa"))

    def test_both_at_once(self):
        self.assertEqual(splits.both_at_once(2), {
            "": (1, 1), "a": (1, 1), "b": (1, 1), "aa": (1, 2), "ab": (1, 2), "ba": (1, 2), "bb": (1, 2),
        })
        found = splits.both_at_once(7)
        self.assertEqual(list(found), list(splits.words_of(7)))
        self.assertTrue(all(found[word] == (1, math.factorial(len(word))) for word in found))


class OrderTests(unittest.TestCase):
    def test_known_orders(self):
        for turns, due in (
            (ONE_OF_EACH, 1), (ONE_OF_EACH[::-1], 1), (EVEN, 2), (turns_of("b 1/2 a 1 b 1/2"), 2), (THREE, 3),
            (ODD, 0), (turns_of("a 1"), 0), (turns_of("a 1 b 1/2"), 0), (turns_of("a 1/2 b 1/2 a 1/2 b 1/2"), 1),
            (EVEN * 2, 0), (splits.scaled_turns(EVEN * 2, (1, 2)), 2), (THREE[::-1], 3),
        ):
            self.assertEqual(splits.order_of(turns, 5), due)
            for most in range(0, 5):
                self.assertEqual(splits.order_of([list(turn) for turn in turns], most), min(most, due))

    def test_raised(self):
        for turns, parts, due in (
            (EVEN, CUBES, 3), (EVEN, CUBES_AND_BACK, 4), (ONE_OF_EACH, parts_of("1/2 1/2"), 1), (EVEN, parts_of("1"), 2),
            (ONE_OF_EACH, CUBES, 1), (EVEN, parts_of("1/3 1/3 1/3"), 2),
        ):
            found = splits.raised_order(turns, list(parts))
            self.assertTrue(are_tuples(found))
            self.assertEqual(splits.order_of(found, 5), due)
            self.assertEqual(splits.letters_of(found), parts_of("1 1"))
        self.assertTrue(splits.is_even_turns(splits.raised_order(EVEN, CUBES_AND_BACK)))

    def test_raised_by_hand(self):
        self.assertEqual(
            splits.raised_order(EVEN, parts_of("2/3 1/3")), turns_of("a 1/3 b 2/3 a 1/2 b 1/3 a 1/6"),
        )
        self.assertEqual(splits.raised_order(EVEN, parts_of("0 1 0")), EVEN)

    def test_raised_with_parts_that_are_not_one_in_all(self):
        for parts in ("", "1/2", "1 1", "1/2 1/3", "-1", "0"):
            with self.assertRaises(BadTable):
                splits.raised_order(EVEN, parts_of(parts))

    def test_greatest_word(self):
        for turns, count, due in (
            (ONE_OF_EACH, 2, ("ab", (1, 2))), (ONE_OF_EACH, 1, ("a", (0, 1))), (EVEN, 0, ("", (0, 1))),
            (EVEN, 2, ("aa", (0, 1))), (EVEN, 3, ("bab", (-1, 6))), (ODD, 1, ("a", (1, 1))),
            (turns_of("b 1 a 1"), 2, ("ab", (-1, 2))), (turns_of("a 1 b 3"), 1, ("b", (2, 1))),
            (turns_of("a -1 b 3"), 1, ("a", (-2, 1))),
        ):
            found = splits.greatest_word([list(turn) for turn in turns], count)
            self.assertEqual(found, due)
            self.assertTrue(are_tuples(found))

    def test_greatest_word_against_all(self):
        for turns in LOTS:
            for count in range(5):
                lacks = [
                    (word, Fraction(*part_by_choosing(turns, word)) - Fraction(1, math.factorial(count)))
                    for word in splits.words_of(count) if len(word) == count
                ]
                best = max(abs(lack) for word, lack in lacks)
                due = [(word, as_part(lack)) for word, lack in lacks if abs(lack) == best][0]
                self.assertEqual(splits.greatest_word(turns, count), due)


def nilpotent(texts):
    return tuple(parts_of(row) for row in texts.split(";"))


class MotionTests(unittest.TestCase):
    def test_words_are_what_turns_make_of_squares(self):
        # These squares, so often done that nothing is left, have motions that end with the third power.
        one = nilpotent("0 1 2 -1; 0 0 3 1/2; 0 0 0 1; 0 0 0 0")
        other = nilpotent("0 -2 1 0; 0 0 1 5; 0 0 0 -1/3; 0 0 0 0")
        exponential = parts_of("1 1 1/2 1/6")
        squares = {"a": one, "b": other}
        for turns in LOTS:
            told = matrices.one_of(4)
            for letter, part in turns:
                mine = matrices.of_curve(exponential, matrices.times_part(squares[letter], part))
                told = matrices.behind_square(mine, told)
            found = matrices.times_part(one, (0, 1))
            for word, part in splits.of_turns(turns, 3).items():
                square = matrices.one_of(4)
                for letter in word:
                    square = matrices.behind_square(squares[letter], square)
                found = matrices.sum_of(found, matrices.times_part(square, part))
            self.assertEqual(found, told)

    def test_a_rule_of_order_three_is_both_at_once_on_them(self):
        one = nilpotent("0 1 2 -1; 0 0 3 1/2; 0 0 0 1; 0 0 0 0")
        other = nilpotent("0 -2 1 0; 0 0 1 5; 0 0 0 -1/3; 0 0 0 0")
        exponential = parts_of("1 1 1/2 1/6")
        due = matrices.of_curve(exponential, matrices.sum_of(one, other))
        for turns, same in ((THREE, True), (splits.raised_order(EVEN, CUBES), True), (EVEN, False)):
            told = matrices.one_of(4)
            for letter, part in turns:
                square = matrices.times_part(one if letter == "a" else other, part)
                told = matrices.behind_square(matrices.of_curve(exponential, square), told)
            self.assertEqual(told == due, same)

    def test_they_are_step_faults(self):
        with self.assertRaises(StepFault):
            splits.check_turns([])


if __name__ == "__main__":
    unittest.main()
