"""Matrices: squares of parts, put together, turned about, and what rules make of motions by them."""

from stepwright.errors import BadField, BadPart
from stepwright.parts import dot, greatest, minus, over, rows_added, scaled, size_of, total


def check_square(rows):
    """Return rows of parts, as many as each has; BadField."""
    found = tuple([tuple(row) for row in rows])
    if found == () or any(len(row) != len(found) for row in found):
        raise BadField("not a square")
    return found


def check_sizes(one, other):
    """Return two squares of one size; BadField."""
    mine, its = check_square(one), check_square(other)
    if len(mine) != len(its):
        raise BadField(f"squares of {len(mine)} and {len(its)} rows")
    return (mine, its)


def one_of(size):
    """Return the square that leaves all as it is; BadField below one."""
    if size < 1:
        raise BadField(f"no square of {size} rows")
    return tuple([tuple([(1 if a == b else 0, 1) for b in range(size)]) for a in range(size)])


def sum_of(one, other):
    """Return the sum of two squares of one size; BadField."""
    mine, its = check_sizes(one, other)
    return tuple([rows_added(row, its_row) for row, its_row in zip(mine, its)])


def times_part(one, by):
    """Return a square times a part."""
    return tuple([scaled(row, by) for row in one])


def behind_square(one, other):
    """Return the square that does another first, then one; BadField for unlike sizes."""
    mine, its = check_sizes(one, other)
    columns = turned_square(its)
    return tuple([tuple([dot(row, column) for column in columns]) for row in mine])


def of_row(one, row):
    """Return a square's row of a row; BadPart for another length."""
    return tuple([dot(mine, row) for mine in one])


def turned_square(one):
    """Return a square with rows and columns exchanged."""
    return tuple([tuple(column) for column in zip(*one)])


def answer(one, row):
    """Return the only row whose square's row is a told one; BadPart for none or more, BadField for another length."""
    square = check_square(one)
    size = len(square)
    if len(row) != size:
        raise BadField(f"a row of {len(row)} parts for a square of {size}")
    rows = [mine + (its,) for mine, its in zip(square, row)]
    for column in range(size):
        good = [at for at in range(column, size) if rows[at][column][0] != 0]
        if good == []:
            raise BadPart("no row, or more than one")
        rows = cleared(rows, column, good[0])
    return tuple([mine[size] for mine in rows])


def cleared(rows, column, at):
    """Return rows whose column is one in the row of its place, nought in others, by the row at a place no earlier."""
    head = scaled(rows[at], over((1, 1), rows[at][column]))
    others = rows[:at] + rows[at + 1:]
    found = [rows_added(row, scaled(head, minus((0, 1), row[column]))) for row in others]
    return found[:column] + [head] + found[column:]


def undone_square(one):
    """Return the square that undoes another; BadPart where there is none."""
    square = check_square(one)
    return turned_square([answer(square, row) for row in one_of(len(square))])


def of_curve(one, square):
    """Return a polynomial with a square in its letter's place."""
    whole = one_of(len(check_square(square)))
    found = times_part(whole, (0, 1))
    for mine in reversed(one):
        found = sum_of(behind_square(found, square), times_part(whole, mine))
    return found


def step_square(share, square, length):
    """Return the square of a rule's step, by its growth, for a motion by a square; BadPart where it can't be undone."""
    way = times_part(square, length)
    return behind_square(undone_square(of_curve(share[1], way)), of_curve(share[0], way))


def raised_square(one, count):
    """Return a square done so often; BadField below nought."""
    if count < 0:
        raise BadField(f"a square done {count} times")
    found = one_of(len(check_square(one)))
    for _ in range(count):
        found = behind_square(found, one)
    return found


def square_kept(form, one):
    """Tell whether a form of squares is the same behind a square: one turned, the form, one."""
    behind_it = behind_square(behind_square(turned_square(one), form), one)
    return is_nought(sum_of(behind_it, times_part(form, (-1, 1))))


def still_form(form, square):
    """Tell whether a form stays the same along the motion by a square: with it turned and not, nought in all."""
    return is_nought(sum_of(behind_square(turned_square(square), form), behind_square(form, square)))


def is_nought(square):
    """Tell whether all parts of a square are nought."""
    return all([one[0] == 0 for row in square for one in row])


def form_worth(form, row):
    """Return what a form is at a row."""
    return dot(row, of_row(form, row))


def size_by_rows(one):
    """Return the greatest sum of a row's parts without their signs."""
    return greatest([total([size_of(mine) for mine in row]) for row in one])
