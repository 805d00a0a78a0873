"""Fields: how each of several numbers moves, told by polynomials of all, bent along rows, and worth at points."""

from stepwright.errors import BadField
from stepwright.parts import part, plus, product, times, total


def poly(rows):
    """Return the polynomial of (powers, part) rows: a table of powers to parts, in order, without noughts; BadField."""
    found = {}
    for powers, one in rows:
        key = tuple(powers)
        if any(power < 0 for power in key) or any(len(other) != len(key) for other in found):
            raise BadField("powers are none below nought, as many in each row")
        found[key] = plus(found.get(key, (0, 1)), part(one[0], one[1]))
    # Noughts go last of all: until then their powers, too, tell how many the others must have.
    return {key: found[key] for key in sorted(found) if found[key][0] != 0}


class Field:
    """Polynomials of as many letters as there are polynomials."""

    def __init__(self, rows):
        self.polys = tuple([poly(one) for one in rows])
        if self.polys == () or any(len(key) != len(self.polys) for one in self.polys for key in one):
            raise BadField("a field has a letter at least, and as many letters as polynomials")

    def size(self):
        """Return how many letters there are."""
        return len(self.polys)

    def at(self, point):
        """Return the row of slopes at a point; BadField for another length."""
        return self.bent(point, ())

    def bent(self, point, rows):
        """Return the row of slopes at a point, bent once along each of some rows; BadField."""
        if any(len(row) != len(self.polys) for row in (point,) + tuple(rows)):
            raise BadField(f"a row of another length than {len(self.polys)}")
        found = []
        for one in self.polys:
            bending = one
            for row in rows:
                bending = bent_along(bending, row)
            found.append(worth_of(bending, point))
        return tuple(found)

    def of_tree(self, tree, point):
        """Return the row that a tree tells at a point: the field bent along its branches' rows; BadField."""
        return self.bent(point, [self.of_tree(branch, point) for branch in tree])

    def degree(self):
        """Return the highest sum of powers, nought for none."""
        return max([sum(key) for one in self.polys for key in one], default=0)

    def keeps(self, one):
        """Tell whether a polynomial of the letters stays the same along the field; BadField."""
        return self.change_of(one) == {}

    def change_of(self, one):
        """Return the polynomial that tells how another changes along the field; BadField for other letters."""
        if any(len(key) != len(self.polys) for key in one):
            raise BadField(f"a polynomial of other letters than {len(self.polys)}")
        terms = []
        for letter, mine in enumerate(self.polys):
            terms.extend(list(multiplied_polys(bent_by(one, letter), mine).items()))
        return poly(terms)

    def shown(self):
        """Return the polynomials' ((powers, part), ..) rows."""
        return tuple([tuple(list(one.items())) for one in self.polys])


def worth_of(one, point):
    """Return what a polynomial is at a point."""
    return total([times(mine, power_row(key, point)) for key, mine in one.items()])


def power_row(key, point):
    """Return the product of a point's parts, each as often as its power."""
    return product([product([one] * power) for power, one in zip(key, point)])


def bent_by(one, letter):
    """Return a polynomial's slope along a letter."""
    return poly([
        (key[:letter] + (key[letter] - 1,) + key[letter + 1:], times(mine, (key[letter], 1)))
        for key, mine in one.items()
        if key[letter] > 0
    ])


def bent_along(one, row):
    """Return a polynomial's slope along a row."""
    terms = []
    for letter, by in enumerate(row):
        terms.extend([(key, times(mine, by)) for key, mine in bent_by(one, letter).items()])
    return poly(terms)


def multiplied_polys(one, other):
    """Return the product of two polynomials."""
    return poly([
        (tuple([low + high for low, high in zip(key, its_key)]), times(mine, its))
        for key, mine in one.items()
        for its_key, its in other.items()
    ])


def line_field(matrix):
    """Return the field of a matrix: each slope is its row with the point; BadField where it isn't square."""
    size = len(matrix)
    if size == 0 or any(len(row) != size for row in matrix):
        raise BadField("not a square")
    return Field([[(one_letter(size, letter), mine) for letter, mine in enumerate(row)] for row in matrix])


def one_letter(size, letter):
    """Return the powers of a letter alone, among so many."""
    return tuple([1 if at == letter else 0 for at in range(size)])


def beside(one, other):
    """Return the field of two, the other's letters behind the one's."""
    ahead, behind = (0,) * one.size(), (0,) * other.size()
    mine = [[(key + behind, term) for key, term in row] for row in one.shown()]
    its = [[(ahead + key, term) for key, term in row] for row in other.shown()]
    return Field(mine + its)
