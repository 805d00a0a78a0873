"""Tests that the interface is there: names, arguments, and each defined in the file that lists it."""

import importlib
import inspect
import unittest

FUNCTIONS = {
    "parts": (
        "shared(one, other)",
        "part(top, low=1)",
        "plus(one, other)",
        "minus(one, other)",
        "times(one, other)",
        "over(one, other)",
        "is_less(one, other)",
        "size_of(one)",
        "total(parts)",
        "product(parts)",
        "raised(one, count)",
        "told(one)",
        "read(text)",
        "is_number(text)",
        "scaled(row, by)",
        "rows_added(one, other)",
        "dot(one, other)",
    ),
    "trees": (
        "grown(branches)",
        "check_tree(tree)",
        "order(tree)",
        "height(tree)",
        "leaves(tree)",
        "density(tree)",
        "symmetry(tree)",
        "up_to(number)",
        "rising_ways(tree)",
        "trees_of(count)",
        "forests(count, most, last)",
        "trees_up_to(count)",
        "joined(one, other)",
        "told_tree(tree)",
        "read_tree(text)",
        "read_from(text, place)",
        "cuts(tree)",
        "tall(count)",
        "bushy(count)",
    ),
    "tables": (
        "paper_of(table, count)",
        "check_paper(table, count, rows)",
        "evenly(table, count)",
        "stage_order(table, most)",
        "keeps_squares(table)",
        "turned_back(table)",
        "behind(first, second, part_of_step)",
        "is_same_back(table)",
    ),
    "series": (
        "nothing(count)",
        "exact(count)",
        "of_table(table, count)",
        "same_to(one, other)",
        "turned_series(one)",
        "greatest_lack(one)",
        "mean_of(one, other)",
    ),
    "curves": (
        "curve(parts)",
        "power_of(one)",
        "added(one, other)",
        "scaled_curve(one, by)",
        "taken(one, other)",
        "multiplied(one, other)",
        "divided(one, other)",
        "worth(one, at)",
        "slope(one)",
        "area_under(one)",
        "between(one, low, high)",
        "through(points)",
        "put_in(one, other)",
        "shared_curve(one, other)",
        "powers(count)",
    ),
    "roots": (
        "rests(one)",
        "changes(row, at)",
        "plain(one)",
        "how_many(one, low, high)",
        "bound(one)",
        "all_of(one)",
        "narrowed(one, low, high, turns)",
        "apart(one)",
        "split(one, low, high)",
        "never_below(one, low, high)",
        "samples(one, low, high)",
        "sign_at(one, at)",
        "inside_circle(one)",
    ),
    "areas": (
        "by_places(places)",
        "even_rule(count)",
        "sharpened(rows, by)",
        "halved_rows(rule, deed, low, high, count)",
        "as_fine(rule, deed, low, high, most, depth)",
        "is_even(rule)",
        "none_below(rule)",
    ),
    "fields": (
        "poly(rows)",
        "worth_of(one, point)",
        "power_row(key, point)",
        "bent_by(one, letter)",
        "bent_along(one, row)",
        "multiplied_polys(one, other)",
        "line_field(matrix)",
        "beside(one, other)",
    ),
    "flows": (
        "check_count(count)",
        "power_product(one, other, count)",
        "poly_of_rows(one, rows, count)",
        "motion(field, point, count)",
        "check_point(field, point)",
        "step_rows(table, field, point, count)",
        "inner_point(point, shares, slopes, count)",
        "by_trees(values, field, point, count)",
        "agree_to(one, other)",
        "step(table, field, point, length)",
        "moved(point, shares, slopes, length)",
        "steps(table, field, point, length, count)",
        "worth_of_rows(rows, length)",
        "lack_rows(one, other)",
    ),
    "rows": (
        "by_slopes(count)",
        "by_slopes_and_newest(count)",
        "by_areas(count, last, steps_back)",
        "by_points(count)",
        "walked(rule, field, points, length, count)",
        "same_rule(one, other)",
        "greatest_growth(rule, count)",
        "midst(one, other)",
    ),
    "limits": (
        "growth(table)",
        "cell_of(table, a, b, ahead)",
        "minor(rows)",
        "grown_by(share, at)",
        "follows_to(share, most)",
        "squares(one)",
        "calm_on_turns(share)",
        "calm_between(share, low, high)",
        "calm_down_to(share, steps, most)",
        "shrinks_far(share)",
        "back_share(share)",
        "behind_share(one, other)",
        "check_calm(share, points)",
        "root_count(share)",
        "power_share(share, count)",
    ),
    "matrices": (
        "check_square(rows)",
        "one_of(size)",
        "sum_of(one, other)",
        "times_part(one, by)",
        "behind_square(one, other)",
        "of_row(one, row)",
        "turned_square(one)",
        "answer(one, row)",
        "undone_square(one)",
        "of_curve(one, square)",
        "step_square(share, square, length)",
        "raised_square(one, count)",
        "square_kept(form, one)",
        "still_form(form, square)",
        "form_worth(form, row)",
        "size_by_rows(one)",
    ),
    "splits": (
        "check_turns(turns)",
        "words_of(count)",
        "one_turn(letter, one, count)",
        "put_behind(first, second, count)",
        "of_turns(turns, count)",
        "both_at_once(count)",
        "order_of(turns, most)",
        "together(turns)",
        "back_turns(turns)",
        "is_even_turns(turns)",
        "scaled_turns(turns, by)",
        "raised_order(turns, parts)",
        "greatest_word(turns, count)",
        "letters_of(turns)",
    ),
    "nodes": (
        "check_places(places)",
        "bases(places)",
        "by_nodes(places)",
        "part_weights(places)",
        "part_lack(table, weights, tree, at)",
        "part_order(table, weights, most)",
        "straight_weights(table)",
        "same_weights(places)",
        "joined_pair(table, weights)",
        "lesser_weights(table, others)",
        "grown_table(table)",
        "at_part(table, weights, at)",
        "sum_of_weights(weights, at)",
        "even_places(count)",
    ),
    "walks": (
        "taken_rows(rows)",
        "greatest_error(rows)",
        "lengths(rows)",
        "even_walk(table, field, point, length, count)",
    ),
    "desks": (
        "number(word)",
        "row_of(word)",
        "poly_rows(word, letters)",
        "figure_of(text)",
        "lines_of(text)",
        "done_again(text)",
    ),
}
CLASSES = {
    "errors": (
        "StepFault",
        "BadPart",
        "BadTree",
        "BadTable",
        "BadField",
        "BadPaper",
        "BadSize",
        "BadText",
        "BadStore",
        "NoSuch",
    ),
    "tables": ("Table",),
    "series": ("Series",),
    "areas": ("Rule",),
    "fields": ("Field",),
    "rows": ("Steps",),
    "walks": ("Walk",),
    "desks": ("Desk",),
}
METHODS = {
    "tables.Table": (
        "__init__(self, shares, weights)",
        "stages(self)",
        "is_plain(self)",
        "is_stepwise(self)",
        "inner(self, tree)",
        "weight(self, tree)",
        "lack(self, tree)",
        "order(self, most)",
        "shown(self)",
    ),
    "series.Series": (
        "__init__(self, count, values)",
        "at(self, tree)",
        "behind(self, other)",
        "undone(self)",
        "scaled(self, by)",
        "is_exact_to(self)",
        "shown(self)",
    ),
    "areas.Rule": (
        "__init__(self, places, weights)",
        "area(self, deed, low, high)",
        "exact_to(self, most)",
        "lack(self, power)",
        "in_turn(self, count)",
        "shown(self)",
    ),
    "fields.Field": (
        "__init__(self, rows)",
        "size(self)",
        "at(self, point)",
        "bent(self, point, rows)",
        "of_tree(self, tree, point)",
        "degree(self)",
        "keeps(self, one)",
        "change_of(self, one)",
        "shown(self)",
    ),
    "rows.Steps": (
        "__init__(self, points, slopes)",
        "lack(self, power)",
        "order(self, most)",
        "is_steady(self)",
        "is_plain(self)",
        "next_point(self, field, points, length)",
        "shown(self)",
    ),
    "walks.Walk": (
        "__init__(self, table, others, most, shorter, longer, calm)",
        "both(self, field, point, length)",
        "go(self, field, point, time, end, length, tries)",
        "next_length(self, length, error)",
        "end_of(self, field, rows, time, point)",
        "check(self, field, rows, end)",
    ),
    "desks.Desk": (
        "__init__(self)",
        "say(self, line)",
        "do(self, line)",
        "here(self)",
        "there(self)",
        "told_point(self)",
        "let(self, table, words)",
        "write(self, words, answer)",
        "answer(self, words)",
    ),
}


def module_of(name):
    return importlib.import_module(f"stepwright.{name}")


class InterfaceTests(unittest.TestCase):
    def test_functions_take_the_listed_arguments(self):
        for name, heads in FUNCTIONS.items():
            for head in heads:
                with self.subTest(head):
                    found = getattr(module_of(name), head.partition("(")[0])
                    self.assertTrue(inspect.isfunction(found))
                    self.assertEqual(found.__name__ + str(inspect.signature(found)), head)

    def test_functions_and_classes_are_defined_in_their_file(self):
        for name, heads in list(FUNCTIONS.items()) + list(CLASSES.items()):
            for head in heads:
                with self.subTest(head):
                    found = getattr(module_of(name), head.partition("(")[0])
                    self.assertEqual(found.__module__, f"stepwright.{name}")

    def test_classes_are_classes(self):
        for name, heads in CLASSES.items():
            for head in heads:
                self.assertTrue(inspect.isclass(getattr(module_of(name), head)))

    def test_methods_are_defined_in_their_class_and_take_the_listed_arguments(self):
        for name, heads in METHODS.items():
            file, _, kind = name.partition(".")
            rows = vars(getattr(module_of(file), kind))
            for head in heads:
                with self.subTest(f"{name}.{head}"):
                    found = rows[head.partition("(")[0]]
                    self.assertTrue(inspect.isfunction(found))
                    self.assertEqual(found.__name__ + str(inspect.signature(found)), head)
                    self.assertEqual(found.__module__, f"stepwright.{file}")

    def test_plain_values(self):
        self.assertEqual(module_of("trees").LEAF, ())
        self.assertEqual(module_of("desks").MOST, 10 ** 40)
        self.assertEqual(module_of("desks").BASE, 9973)
        self.assertEqual(module_of("desks").WIDE, 2000003)


if __name__ == "__main__":
    unittest.main()
