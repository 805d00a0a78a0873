"""Tests of stepwright.desks: point 17, and points 1 and 18 as far as they concern desks."""

import unittest

from stepwright import desks
from stepwright.desks import Desk, done_again, figure_of, lines_of
from stepwright.errors import (
    BadField, BadPart, BadSize, BadStore, BadTable, BadText, BadTree, NoSuch, StepFault,
)
from stepwright.flows import step
from stepwright.limits import follows_to, growth
from stepwright.nodes import by_nodes
from stepwright.tables import is_same_back, keeps_squares, stage_order, turned_back
from stepwright.trees import read_tree, told_tree, trees_up_to
from tests.known import (
    END, EULER, FOUR, LOBATTO, MIDDLE, RADAU, RULES, STEPWISE, THREE, TRAPEZE, TWO_END, TWO_MIDDLE, are_tuples,
    field_of, parts_of,
)

# Each first word with the counts of words that its lines have.
COUNTS = {
    "rule": (3, 4, 5, 6), "nodes": (2,), "back": (1,), "field": (2, 3, 4), "at": (2,), "step": (2,), "point": (1,),
    "weight": (2,), "lacks": (2,), "tells": (1,), "growth": (1,), "slope": (2,),
}
TURNING_LINE = "field -1*0.1 1*1.0"
DEEDS = (
    "rule 0,0 1/2,0 0,1", TURNING_LINE, "at 1,0", "step 1/2", "nodes 0,1/2,1", "back", "rule 0 1", "step -1/3",
    "field 1*2", "at -2/3", "step 0",
)
ASKS = ("point", "weight (()())", "lacks 4", "tells", "growth", "slope (())")


def told(one):
    return str(one[0]) if one[1] == 1 else f"{one[0]}/{one[1]}"


def told_rule(table):
    """Tell the line that makes a rule."""
    return " ".join(["rule"] + [",".join(told(one) for one in row) for row in table.shares + (table.weights,)])


def written(lines):
    """Tell the text of lines, by the figure's own words."""
    text = ""
    for place, line in enumerate(lines):
        body = f"{place} {line}"
        plain = weighed = 0
        for at in range(len(body)):
            plain += ord(body[at])
            weighed += ord(body[at]) * (at + 1)
        text += f"{body} {plain % 2000003 * 9973 + weighed % 9973}\n"
    return text


def desk_of(*lines):
    desk = Desk()
    for line in lines:
        answer = desk.say(line)
        assert not answer.startswith("error"), (line, answer)
    return desk


def state_of(desk):
    """Tell all that a desk holds."""
    return (
        desk.table and desk.table.shown(), desk.field and desk.field.shown(), desk.point, desk.text, desk.many,
    )


class WordTests(unittest.TestCase):
    def test_numbers(self):
        for word, due in (("0", 0), ("7", 7), ("00", 0), ("05", 5), ("42", 42), ("99", 99)):
            self.assertEqual(desks.number(word), due)
        for word in ("", "100", "-1", "1.", "a", "1a", " 1", "+1", "1/2", "\u0661", "\u00b2"):
            with self.assertRaises(BadText):
                desks.number(word)

    def test_rows(self):
        self.assertEqual(desks.row_of("1/2,-3,0"), parts_of("1/2 -3 0"))
        self.assertEqual(desks.row_of("2/4"), parts_of("1/2"))
        self.assertTrue(are_tuples(desks.row_of("1/2,-3,0")))
        for word in ("", "1,", ",1", "1,,2", "x", "1;2", "1/0", "1,2/", "1234567890123"):
            with self.assertRaises(BadPart):
                desks.row_of(word)

    def test_polynomials(self):
        self.assertEqual(desks.poly_rows("1/2*3", 1), (((3,), (1, 2)),))
        self.assertEqual(desks.poly_rows("-1*0.10;2/4*1.0", 2), (((0, 10), (-1, 1)), ((1, 0), (1, 2))))
        self.assertEqual(desks.poly_rows("5*0.0.0;5*0.0.0", 3), (((0, 0, 0), (5, 1)),) * 2)
        self.assertTrue(are_tuples(desks.poly_rows("-1*0.10;2/4*1.0", 2)))

    def test_polynomials_refused(self):
        for word, letters in (
            ("", 1), ("1", 1), ("1*1;", 1), (";1*1", 1), ("1*1.1", 1), ("1*1", 2), ("1*", 1), ("1*x", 1), ("1*100", 1),
            ("1*-1", 1), ("1*1.", 2), ("1*1*1", 1), ("1*1,2", 1), ("x*y", 1), ("2;1*1", 1),
        ):
            with self.assertRaises(BadText):
                desks.poly_rows(word, letters)
        for word, letters in (("*1", 1), ("x*1", 1), ("1/0*1", 1), ("1*1;+1*1", 1), ("1,2*1.1", 2)):
            with self.assertRaises(BadPart):
                desks.poly_rows(word, letters)

    def test_figures(self):
        self.assertEqual(figure_of(""), 0)
        self.assertEqual(figure_of("a"), 97 * 9973 + 97)
        self.assertEqual(figure_of("ab"), (97 + 98) * 9973 + 97 + 2 * 98)
        self.assertEqual(figure_of("ba"), (97 + 98) * 9973 + 98 + 2 * 97)
        self.assertEqual(figure_of("z" * 30000), (122 * 30000 % 2000003) * 9973 + 122 * 450015000 % 9973)
        self.assertEqual(figure_of("\U0010ffff\U0010ffff"), (2 * 0x10ffff % 2000003) * 9973 + 3 * 0x10ffff % 9973)
        for text in ("0 rule 0 1", "7 step -1/3"):
            self.assertEqual(str(figure_of(text)), written([""] * int(text[0]) + [text[2:]]).split()[-1])


class BeginTests(unittest.TestCase):
    def test_a_desk_begins_bare(self):
        desk = Desk()
        self.assertEqual(state_of(desk), (None, None, (), "", 0))
        self.assertIs(desk.table, None)
        self.assertIs(desk.field, None)

    def test_without_a_rule_and_a_field(self):
        desk = Desk()
        for line in (
            "back", "weight ()", "lacks 3", "tells", "growth", "step 1", "slope ()", "at 1",
        ):
            self.assertEqual(desk.say(line), "error: no such")
        self.assertEqual(desk.say("point"), "")
        for deed in (desk.here, desk.there, lambda: desk.do("back"), lambda: desk.do("slope ()")):
            with self.assertRaises(NoSuch):
                deed()
        self.assertEqual(state_of(desk), (None, None, (), "", 0))

    def test_a_rule_alone_has_no_field(self):
        desk = desk_of("rule 0 1")
        for line in ("step 1", "slope ()", "at 1"):
            self.assertEqual(desk.say(line), "error: no such")
        self.assertEqual(desk.say("point"), "")

    def test_a_field_alone_has_no_rule(self):
        desk = desk_of("field 1*1")
        for line in ("step 1", "tells", "growth", "back"):
            self.assertEqual(desk.say(line), "error: no such")
        self.assertEqual(desk.say("at 1/2"), "1/2")
        self.assertEqual(desk.say("slope (())"), "1/2")

    def test_here_and_there(self):
        desk = desk_of("rule 0 1", "field 1*1")
        self.assertIs(desk.here(), desk.table)
        self.assertIs(desk.there(), desk.field)


class RuleTests(unittest.TestCase):
    def test_rules(self):
        for table in RULES:
            if table.stages() < 5:
                desk = Desk()
                self.assertEqual(desk.say(told_rule(table)), str(table.order(5)))
                self.assertEqual(desk.table.shown(), table.shown())
                self.assertEqual((desk.field, desk.point), (None, ()))

    def test_nodes(self):
        for places, due in (("0", 1), ("1/2", 2), ("0,1", 2), ("1/3,1", 3), ("0,1/2,1", 4), ("0,1/4,1/2,3/4,1", 5)):
            desk = Desk()
            self.assertEqual(desk.say("nodes " + places), str(min(due, 5)))
            self.assertEqual(desk.table.shown(), by_nodes(parts_of(places.replace(",", " "))).shown())

    def test_orders_are_told_up_to_five(self):
        self.assertEqual(Desk().say("nodes 0,1/6,1/3,1/2,2/3,5/6,1"), "5")

    def test_back(self):
        for table in (EULER, TWO_END, RADAU, STEPWISE, FOUR):
            desk = desk_of(told_rule(table))
            self.assertEqual(desk.say("back"), str(turned_back(table).order(5)))
            self.assertEqual(desk.table.shown(), turned_back(table).shown())
            desk.say("back")
            self.assertEqual(desk.table.shown(), table.shown())

    def test_refused(self):
        desk = desk_of("rule 0,0 1/2,0 0,1", "field 1*1", "at 2")
        before = state_of(desk)
        for line, due in (
            ("rule 0 1,1", "table"), ("rule 0,0 1", "table"), ("rule 0,0 0,0 1", "table"), ("rule 0 0 1", "table"),
            ("rule 0,0 0 0,1", "table"), ("rule x 1", "part"), ("rule 0 x", "part"), ("rule 0 1/0", "part"),
            ("rule x,0 1", "part"), ("rule 0, 1", "part"), ("nodes 0,0", "table"), ("nodes x", "part"),
            ("nodes 0,1,2/2", "table"), ("nodes 0,,1", "part"), ("rule 0;0 1", "part"),
        ):
            self.assertEqual(desk.say(line), "error: " + due)
            self.assertEqual(state_of(desk), before)

    def test_let(self):
        desk = Desk()
        self.assertEqual(desk.let(MIDDLE, ["nodes", "1/2"]), "2")
        self.assertIs(desk.table, MIDDLE)
        self.assertEqual((desk.text, desk.many), (written(["nodes 1/2"]), 1))


class FieldTests(unittest.TestCase):
    def test_fields(self):
        for line, field in (
            ("field 1*1", field_of("1*1")), ("field -1*0.1 1*1.0", field_of("-1*0.1", "1*1.0")),
            ("field 2/3*1.0;-4/3*1.1 -1*0.1;1*1.1", field_of("2/3*1.0; -4/3*1.1", "-1*0.1; 1*1.1")),
            ("field 1*0.1.1 -1*1.0.1 -1/2*1.1.0", field_of("1*0.1.1", "-1*1.0.1", "-1/2*1.1.0")),
            ("field 1*2;-1*2", field_of("")), ("field 1*99", field_of("1*99")), ("field 0*0", field_of("")),
        ):
            desk = Desk()
            self.assertEqual(desk.say(line), str(field.size()))
            self.assertEqual(desk.field.shown(), field.shown())
            self.assertEqual(desk.point, ((0, 1),) * field.size())
            self.assertEqual(desk.say("point"), ",".join("0" * field.size()))

    def test_a_new_field_has_a_new_point(self):
        desk = desk_of("field 1*1", "at 7")
        self.assertEqual(desk.say("field 1*1"), "1")
        self.assertEqual(desk.say("point"), "0")

    def test_refused(self):
        desk = desk_of("rule 0 1", "field 1*1", "at 2")
        before = state_of(desk)
        for line, due in (
            ("field 1", "text"), ("field 1*1.1", "text"), ("field 1*1 1*1", "text"), ("field x*1", "part"),
            ("field 1*100", "text"), ("field 1*1.0 x*1.0", "part"), ("field 1*1.0 x", "text"), ("field x*1.0 y", "part"),
            ("field 1*1;", "text"), ("field 1/0*1", "part"), ("field 1*1.1.1 1*1.1.1", "text"),
        ):
            self.assertEqual(desk.say(line), "error: " + due, line)
            self.assertEqual(state_of(desk), before)

    def test_at(self):
        desk = desk_of("field -1*0.1 1*1.0")
        self.assertEqual(desk.say("at 2/4,-3"), "1/2,-3")
        self.assertEqual(desk.point, parts_of("1/2 -3"))
        self.assertTrue(are_tuples(desk.point))
        self.assertEqual(desk.say("point"), "1/2,-3")
        self.assertEqual(desk.told_point(), "1/2,-3")
        before = state_of(desk)
        for line, due in (
            ("at 1", "field"), ("at 1,2,3", "field"), ("at x,1", "part"), ("at 1,", "part"), ("at 1/0,1", "part"),
            ("at x", "part"),
        ):
            self.assertEqual(desk.say(line), "error: " + due)
            self.assertEqual(state_of(desk), before)

    def test_at_ahead_of_a_field(self):
        desk = desk_of("rule 0 1")
        self.assertEqual(desk.say("at 1"), "error: no such")
        self.assertEqual(desk.say("at x"), "error: part")
        self.assertEqual(desk.point, ())


class StepTests(unittest.TestCase):
    def test_steps(self):
        for table in (EULER, TWO_MIDDLE, THREE, FOUR):
            desk = desk_of(told_rule(table), TURNING_LINE, "at 1,0")
            point = parts_of("1 0")
            for length in ("1/2", "-2/3", "0", "5"):
                point = step(table, field_of("-1*0.1", "1*1.0"), point, parts_of(length)[0])
                self.assertEqual(desk.say("step " + length), ",".join(told(one) for one in point))
                self.assertEqual(desk.point, point)

    def test_refused(self):
        desk = desk_of("rule 0 1", "field 1*1", "at 2")
        before = state_of(desk)
        for line in ("step x", "step 1/0", "step 1,2", "step 1234567890123"):
            self.assertEqual(desk.say(line), "error: part")
            self.assertEqual(state_of(desk), before)

    def test_rules_that_are_not_plain(self):
        for table in (END, MIDDLE, TRAPEZE, RADAU):
            desk = desk_of(told_rule(table), "field 1*1", "at 2")
            before = state_of(desk)
            self.assertEqual(desk.say("step 1/2"), "error: field")
            # The length is read ahead of the step.
            self.assertEqual(desk.say("step x"), "error: part")
            self.assertEqual(state_of(desk), before)

    def test_points_too_great(self):
        # A step of the plain rule on the line makes the point one and the length times as great.
        for start, ways, last, less in (
            ("100000000000", ["999999999999"] * 2, "99999", "99998"),
            ("-100000000000", ["999999999999"] * 2, "99999", "99998"),
            ("1/100000000000", ["-99999999999/100000000000"] * 2, "-9999999/10000000", "-4999999/5000000"),
        ):
            desk = desk_of("rule 0 1", "field 1*1", "at " + start, *["step " + way for way in ways])
            before = state_of(desk)
            self.assertEqual(desk.say("step " + last), "error: size")
            self.assertEqual(state_of(desk), before)
            with self.assertRaises(BadSize):
                desk.do("step " + last)
            self.assertFalse(desk.say("step " + less).startswith("error"))
            self.assertEqual(desk.many, before[4] + 1)

    def test_just_below_and_just_there(self):
        desk = desk_of("rule 0 1", "field 1*1", "at 100000000000", *["step 999999999999"] * 2)
        self.assertEqual(desk.point, ((10 ** 35, 1),))
        self.assertEqual(desk.say("step 99998"), "99999" + "0" * 35)
        desk = desk_of("rule 0 1", "field 1*0", "at 0")
        self.assertEqual(desk.say("step 1"), "1")
        desk.point = ((10 ** 40 - 2, 1),)
        self.assertEqual(desk.say("step 1"), "9" * 40)
        self.assertEqual(desk.say("step 1"), "error: size")
        self.assertEqual(desk.say("step 0"), "9" * 40)
        desk.point = ((1, 10 ** 40 - 1),)
        self.assertEqual(desk.say("step 0"), "1/" + "9" * 40)
        desk.point = ((1, 10 ** 40),)
        self.assertEqual(desk.say("step 0"), "error: size")

    def test_any_letter_too_great(self):
        desk = desk_of("rule 0 1", "field 0*0.0 1*0.1", "at 1,100000000000", *["step 999999999999"] * 2)
        self.assertEqual(desk.say("step 99999"), "error: size")
        desk = desk_of("rule 0 1", "field 1*1.0 0*0.0", "at 100000000000,1", *["step 999999999999"] * 2)
        self.assertEqual(desk.say("step 99999"), "error: size")


class AskTests(unittest.TestCase):
    def test_weights(self):
        for table in (EULER, RADAU, STEPWISE, FOUR):
            desk = desk_of(told_rule(table))
            for tree in trees_up_to(4):
                self.assertEqual(desk.say("weight " + told_tree(tree)), told(table.weight(tree)))
        self.assertEqual(desk_of("rule 0,0 1/2,0 0,1").say("weight ((())())"), "0")
        self.assertEqual(desk_of("rule 1/2 1").say("weight ((())())"), "1/8")
        for text in ("(", ")", "x", "()()", "(()", "(())x", "1"):
            self.assertEqual(desk_of("rule 0 1").say("weight " + text), "error: tree")

    def test_lacks(self):
        for table in (EULER, RADAU, TWO_END, FOUR):
            desk = desk_of(told_rule(table))
            for count in range(7):
                due = [told_tree(tree) for tree in trees_up_to(count) if table.lack(tree) != (0, 1)]
                self.assertEqual(desk.say(f"lacks {count}"), " ".join(due))
        self.assertEqual(desk_of("rule 0,0 1/2,0 0,1").say("lacks 3"), "(()()) ((()))")
        self.assertEqual(desk_of("rule 0,0 1/2,0 0,1").say("lacks 02"), "")
        self.assertEqual(desk_of("rule 0 1").say("lacks 2"), "(())")

    def test_lacks_refused(self):
        desk = desk_of("rule 0 1")
        for word, due in (
            ("9", "size"), ("99", "size"), ("10", "size"), ("100", "text"), ("x", "text"), ("-1", "text"), ("1/2", "text"),
        ):
            self.assertEqual(desk.say("lacks " + word), "error: " + due)

    def test_tells(self):
        for table, due in (
            (EULER, "1 5 1 1 0 0"), (END, "1 1 0 1 0 0"), (MIDDLE, "1 1 0 1 1 1"), (TRAPEZE, "2 2 0 1 0 1"),
            (RADAU, "2 2 0 0 0 0"), (LOBATTO, "3 3 0 0 0 1"), (FOUR, "4 1 1 1 0 0"), (STEPWISE, None), (TWO_END, None),
        ):
            answer = desk_of(told_rule(table)).say("tells")
            marks = [table.is_plain(), table.is_stepwise(), keeps_squares(table), is_same_back(table)]
            counts = [table.stages(), stage_order(table, 5)] + [int(mark) for mark in marks]
            self.assertEqual(answer, " ".join(str(count) for count in counts))
            if due is not None:
                self.assertEqual(answer, due)
        # The stage order is told up to five.
        self.assertEqual(desk_of("nodes 0,1/6,1/3,1/2,2/3,5/6,1").say("tells"), "7 5 0 0 0 1")

    def test_growth(self):
        for line, due in (
            ("rule 0 1", "1,1|1 1"), ("rule 1 1", "1|1,-1 1"), ("rule 1/2 1", "1,1/2|1,-1/2 2"),
            ("rule 0,0 1/2,0 0,1", "1,1,1/2|1 2"), ("nodes 0,1/2,1", "1,1/2,1/12|1,-1/2,1/12 4"),
            ("nodes 1/3,1", "1,1/3|1,-2/3,1/6 3"), ("rule 0 2", "1,2|1 0"),
        ):
            self.assertEqual(desk_of(line).say("growth"), due)
        # How far it follows is told up to six.
        desk = desk_of("nodes 0,1/6,1/3,1/2,2/3,5/6,1")
        self.assertGreater(follows_to(growth(desk.table), 9), 6)
        self.assertEqual(desk.say("growth").split()[-1], "6")
        self.assertEqual(len(desk.say("growth").split()), 2)

    def test_slope(self):
        field = field_of("2/3*1.0; -4/3*1.1", "-1*0.1; 1*1.1")
        desk = desk_of("field 2/3*1.0;-4/3*1.1 -1*0.1;1*1.1", "at 1/2,3/4")
        for tree in trees_up_to(4):
            due = field.of_tree(tree, parts_of("1/2 3/4"))
            self.assertEqual(desk.say("slope " + told_tree(tree)), ",".join(told(one) for one in due))
        self.assertEqual(desk.say("slope ((())())"), desk.say("slope (()(()))"))
        for text in ("(", "x", "()x", "1/2"):
            self.assertEqual(desk.say("slope " + text), "error: tree")

    def test_asked_straight(self):
        desk = desk_of("rule 0 1", "field 1*1", "at 3")
        for words, due in (
            (["point"], "3"), (["weight", "()"], "1"), (["lacks", "1"], ""), (["tells"], "1 5 1 1 0 0"),
            (["growth"], "1,1|1 1"), (["slope", "()"], "3"),
        ):
            self.assertEqual(desk.answer(words), due)
            self.assertEqual(desk.answer(tuple(words)), due)
        for words in ([], ["rule", "0", "1"], ["point", "1"], ["weight"], ["back"], ["x"], ["slope"], ["lacks", "1", "2"]):
            with self.assertRaises(BadText):
                desk.answer(words)


class LineTests(unittest.TestCase):
    def test_unknown_lines(self):
        for desk in (Desk(), desk_of(*DEEDS)):
            before = state_of(desk)
            for line in (
                "", " ", "   ", "x", "rules 0 1", "Rule 0 1", "points", "0", "error", "lets 1", "ruled", "check", "-",
                "rule,0,1", "point\n", "\n", "rule 0 1\n", "at 1\nat 2", "\npoint",
            ):
                self.assertEqual(desk.say(line), "error: text", line)
                with self.assertRaises(BadText):
                    desk.do(line)
                self.assertEqual(state_of(desk), before)

    def test_other_counts_of_words(self):
        for desk in (Desk(), desk_of(*DEEDS)):
            before = state_of(desk)
            for head, counts in COUNTS.items():
                for count in range(1, 9):
                    if count not in counts:
                        # Words that aren't parts, trees or numbers come behind the count.
                        for word in ("1", "x", "()", "1*1"):
                            line = " ".join([head] + [word] * (count - 1))
                            self.assertEqual(desk.say(line), "error: text", line)
                            self.assertEqual(state_of(desk), before)

    def test_one_to_four_stages_and_one_to_three_letters(self):
        for stages in range(1, 7):
            row = ",".join(["0"] * stages)
            answer = Desk().say(" ".join(["rule"] + [row] * (stages + 1)))
            self.assertEqual(answer, "0" if stages < 5 else "error: text")
        for letters in range(1, 6):
            term = "1*" + ".".join(["0"] * letters)
            answer = Desk().say(" ".join(["field"] + [term] * letters))
            self.assertEqual(answer, str(letters) if letters < 4 else "error: text")

    def test_blanks(self):
        desk = Desk()
        self.assertEqual(desk.say("  rule   0   1 "), "1")
        self.assertEqual(desk.text, written(["rule 0 1"]))
        self.assertEqual(desk.say("  growth "), "1,1|1 1")

    def test_what_is_asked_first(self):
        bare, ruled = Desk(), desk_of("rule 1/2 1")
        fielded = desk_of("field 1*1")
        for desk, line, due in (
            (bare, "weight x", "no such"), (bare, "lacks x", "no such"), (bare, "lacks 9", "no such"),
            (bare, "slope x", "no such"), (bare, "step x", "no such"), (bare, "at x", "part"), (bare, "at 1", "no such"),
            (bare, "weight", "text"), (bare, "weight x y", "text"), (bare, "step", "text"), (bare, "back x", "text"),
            (ruled, "step x", "no such"), (ruled, "slope x", "no such"), (ruled, "at x", "part"),
            (ruled, "weight x", "tree"), (ruled, "lacks 9", "size"), (ruled, "lacks 999", "text"),
            (fielded, "step x", "no such"), (fielded, "weight x", "no such"), (fielded, "slope x", "tree"),
            (fielded, "at x", "part"), (fielded, "at 1,x", "part"), (fielded, "at 1,2", "field"),
            (bare, "rule x 1,1", "part"), (bare, "rule 0,0 y", "part"), (bare, "nodes 0,0,x", "part"),
            (bare, "field x*y", "text"), (bare, "field x*1 y", "text"),
        ):
            before = state_of(desk)
            self.assertEqual(desk.say(line), "error: " + due, line)
            self.assertEqual(state_of(desk), before)

    def test_do_raises_what_say_tells(self):
        desk = desk_of("rule 1/2 1", "field 1*1")
        for line, kind in (
            ("x", BadText), ("at x", BadPart), ("weight x", BadTree), ("rule 0 1,1", BadTable), ("step 1", BadField),
            ("lacks 9", BadSize), ("at 1,1", BadField), ("slope ((", BadTree), ("nodes 1,1", BadTable),
        ):
            with self.assertRaises(kind):
                desk.do(line)
            with self.assertRaises(StepFault):
                desk.do(line)
        self.assertEqual(desk.do("point"), "0")


class WrittenTests(unittest.TestCase):
    def test_deeds_are_written(self):
        desk = Desk()
        for at, line in enumerate(DEEDS):
            self.assertFalse(desk.say(line).startswith("error"), line)
            self.assertEqual(desk.text, written(DEEDS[:at + 1]))
            self.assertEqual(desk.many, at + 1)
            for ask in ASKS:
                desk.say(ask)
            for wrong in ("x", "rule x 1", "at", "at x", "step x", "field 1", "nodes 0,0", "point 1"):
                self.assertTrue(desk.say(wrong).startswith("error"))
            self.assertEqual((desk.text, desk.many), (written(DEEDS[:at + 1]), at + 1))

    def test_a_known_text(self):
        desk = desk_of("rule 0 1")
        body = "0 rule 0 1"
        due = sum(map(ord, body)) * 9973 + sum(ord(sign) * (at + 1) for at, sign in enumerate(body)) % 9973
        self.assertEqual(desk.text, f"0 rule 0 1 {due}\n")
        self.assertEqual(desk.text, "0 rule 0 1 6795067\n")

    def test_deeds_that_change_nothing_are_written_too(self):
        desk = desk_of("rule 0 1", "rule 0 1", "field 1*1", "at 0", "step 1")
        self.assertEqual(desk.many, 5)
        self.assertEqual(desk.text, written(["rule 0 1", "rule 0 1", "field 1*1", "at 0", "step 1"]))

    def test_words_are_written_as_they_were_said(self):
        desk = desk_of("rule 0/3 2/2", "field 2/4*01", "at 4/8")
        self.assertEqual(desk.text, written(["rule 0/3 2/2", "field 2/4*01", "at 4/8"]))

    def test_write(self):
        desk = Desk()
        self.assertEqual(desk.write(["back"], "7"), "7")
        self.assertEqual(desk.write(("step", "1"), ""), "")
        self.assertEqual((desk.text, desk.many), (written(["back", "step 1"]), 2))

    def test_lines_of(self):
        found = lines_of(written(DEEDS))
        self.assertEqual(found, DEEDS)
        self.assertTrue(are_tuples(found))
        self.assertEqual(lines_of(""), ())
        self.assertEqual(lines_of("x"), ())
        self.assertEqual(lines_of(written(["anything at all"])), ("anything at all",))

    def test_cut_anywhere(self):
        text = written(DEEDS)
        for cut in range(len(text) + 1):
            whole = text[:cut].count("\n")
            self.assertEqual(lines_of(text[:cut]), DEEDS[:whole])
            again = done_again(text[:cut])
            self.assertEqual((again.text, again.many), (written(DEEDS[:whole]), whole))

    def test_changed_anywhere(self):
        text = written(DEEDS)
        for at, sign in enumerate(text[:-1]):
            for other in "0 1,x\n":
                if other != sign:
                    with self.assertRaises(BadStore):
                        lines_of(text[:at] + other + text[at + 1:])
                    with self.assertRaises(BadStore):
                        done_again(text[:at] + other + text[at + 1:])

    def test_signs_left_out_and_put_in(self):
        text = written(DEEDS[:4])
        for at in range(len(text) - 1):
            with self.assertRaises(BadStore):
                lines_of(text[:at] + text[at + 1:])
        for at in range(len(text)):
            for other in "0 \n":
                with self.assertRaises(BadStore):
                    lines_of(text[:at] + other + text[at:])

    def test_rows_exchanged_left_out_and_twice(self):
        rows = written(DEEDS).splitlines(keepends=True)
        for at in range(len(rows) - 1):
            for other in (
                rows[:at] + [rows[at + 1], rows[at]] + rows[at + 2:], rows[:at] + rows[at + 1:],
                rows[:at + 1] + rows[at:],
            ):
                with self.assertRaises(BadStore):
                    lines_of("".join(other))

    def test_rows_that_are_not_whole(self):
        for text in ("\n", "0\n", "0 rule 0 1\n", "rule 0 1\n", " \n", f"00 back {figure_of('00 back')}\n",
                     f"1 back {figure_of('1 back')}\n", f"0 back 0{figure_of('0 back')}\n",
                     f"0 back {figure_of('0 back ')}\n", f"0 back  {figure_of('0 back')}\n"):
            with self.assertRaises(BadStore):
                lines_of(text)


class AgainTests(unittest.TestCase):
    def test_it_answers_alike_and_goes_on_alike(self):
        for many in range(len(DEEDS) + 1):
            desk = Desk()
            for line in DEEDS[:many]:
                desk.say(line)
                desk.say("point")
            again = done_again(desk.text)
            self.assertEqual(state_of(again), state_of(desk))
            for line in ASKS + DEEDS + ASKS + ("x", "at x"):
                self.assertEqual(again.say(line), desk.say(line))
                self.assertEqual(state_of(again), state_of(desk))

    def test_from_nothing(self):
        self.assertEqual(state_of(done_again("")), state_of(Desk()))
        self.assertEqual(state_of(done_again("0 rule 0 1 68")), state_of(Desk()))

    def test_lines_that_can_not_be(self):
        for lines in (
            ["rule x 1"], ["back"], ["at 1"], ["step 1"], ["x"], [""], ["rule 0 1", "rule 0 1,1"], ["field 1"],
            ["rule 0 1", "field 1*1", "at 1,2"], ["nodes 0,0"], ["rule 1 1", "field 1*1", "step 1"],
            ["rule 0 1", "field 1*1", "at 100000000000"] + ["step 999999999999"] * 3,
            # What only asks is never written, nor blanks that don't stand between.
            ["point"], ["rule 0 1", "tells"], ["rule 0 1", "growth", "back"], ["rule  0 1"], ["rule 0 1 "], [" rule 0 1"],
            ["rule 0 1", "weight ()"],
        ):
            self.assertEqual(lines_of(written(lines)), tuple(lines))
            with self.assertRaises(BadStore):
                done_again(written(lines))

    def test_a_row_without_an_end(self):
        text = written(DEEDS[:3])
        for rest in ("x", "3 step", "0 rule 0 1 6795067", written(DEEDS[:4])[len(text):-1]):
            again = done_again(text + rest)
            self.assertEqual((again.text, again.many), (text, 3))

    def test_trees_are_read_in_any_order(self):
        desk = desk_of("rule 0,0 1/2,0 0,1")
        self.assertEqual(read_tree("((())())"), ((), ((),)))
        self.assertEqual(desk.say("weight ((())())"), desk.say("weight (()(()))"))


if __name__ == "__main__":
    unittest.main()
