"""Areas: rules that take a curve's area by its worth at places, how far they are exact, put together and sharpened."""

from stepwright.curves import between, powers, through, worth
from stepwright.errors import BadSize, BadTable
from stepwright.parts import dot, halfway, is_less, minus, over, part, plus, size_of, small_row, times


class Rule:
    """Places from nought to one, rising or not, each once, and weights."""

    def __init__(self, places, weights):
        self.places = small_row(places)
        self.weights = small_row(weights)
        if self.places == () or len(self.places) != len(self.weights):
            raise BadTable(f"{len(self.places)} places and {len(self.weights)} weights")
        if is_one_twice(self.places):
            raise BadTable("a place twice")

    def area(self, deed, low, high):
        """Return the area that a rule tells from a part to another for a function of a part."""
        length = minus(high, low)
        worths = [deed(plus(low, times(length, place))) for place in self.places]
        return times(length, dot(self.weights, worths))

    def exact_to(self, most):
        """Return the highest power up to which all are told exactly, -1 for none, no more than told; BadSize."""
        if most < 0:
            raise BadSize(f"no powers up to {most}")
        for power in range(most + 1):
            if self.lack(power)[0] != 0:
                return power - 1
        return most

    def lack(self, power):
        """Return the area that a rule tells for a power from nought to one, less the true one; BadSize below nought."""
        one = powers(power)
        told = self.area(lambda at: worth(one, at), (0, 1), (1, 1))
        return minus(told, between(one, (0, 1), (1, 1)))

    def in_turn(self, count):
        """Return the rule that takes so many even parts one behind another, places that meet put together; BadSize."""
        if count < 1:
            raise BadSize(f"no {count} parts in turn")
        found = {}
        for turn in range(count):
            for place, weight in zip(self.places, self.weights):
                at = over(plus((turn, 1), place), (count, 1))
                found[at] = plus(found.get(at, (0, 1)), over(weight, (count, 1)))
        return Rule(list(found), list(found.values()))

    def shown(self):
        """Return (places, weights)."""
        return (self.places, self.weights)


def is_one_twice(places):
    """Tell whether a place stands twice in a row."""
    return len(set(places)) != len(places)


def by_places(places):
    """Return the rule with places that is exact for all powers below their count; BadTable for one twice, or none."""
    if len(places) == 0 or is_one_twice(places):
        raise BadTable("no places, or one twice")
    return Rule(places, [between(base_of(places, at), (0, 1), (1, 1)) for at in range(len(places))])


def base_of(places, at):
    """Return the lowest polynomial that is one at the place so far on in a row, nought at all others."""
    return through([(place, (1 if turn == at else 0, 1)) for turn, place in enumerate(places)])


def even_rule(count):
    """Return the rule of so many even places from nought to one, the middle for one; BadSize below one."""
    if count < 1:
        raise BadSize(f"no {count} even places")
    if count == 1:
        return by_places([(1, 2)])
    return by_places([part(at, count - 1) for at in range(count)])


def sharpened(rows, by):
    """Return the rows of a table whose first is told for steps each halved; BadSize below one.

    Each next row has two put together so that the error of the next power goes: by, twice by and so on.
    """
    if by < 1:
        raise BadSize(f"no error goes with the power {by}")
    found = [tuple(rows)]
    power = by
    while len(found[-1]) > 1:
        found.append(sharper_row(found[-1], power))
        power += by
    return tuple(found)


def sharper_row(row, power):
    """Return from each two neighbours the second times two to a power less the first, by one less than that."""
    twos = 1 << power
    return tuple([over(minus(times((twos, 1), later), early), (twos - 1, 1)) for early, later in zip(row, row[1:])])


def halved_rows(rule, deed, low, high, count):
    """Return the areas that a rule tells in one, two, four and so on even parts, so many rows; BadSize."""
    if count < 1:
        raise BadSize(f"no {count} rows")
    return tuple([rule.in_turn(1 << turn).area(deed, low, high) for turn in range(count)])


def as_fine(rule, deed, low, high, most, depth):
    """Return (area, parts taken), so deep at most; BadSize below nought.

    A part is halved while the rule in two differs from it in one by more than its share of a told most.
    """
    if most[0] < 0 or depth < 0:
        raise BadSize("a most or a depth below nought")
    in_two = rule.in_turn(2)
    area, taken = (0, 1), []
    # The parts still to look at, the first in order at the end.
    waiting = [(low, high, most, depth)]
    while len(waiting) > 0:
        start, end, share, deeper = waiting.pop()
        told = in_two.area(deed, start, end)
        if deeper == 0 or not is_less(share, size_of(minus(told, rule.area(deed, start, end)))):
            area = plus(area, told)
            taken.append((start, end))
        else:
            middle, half = halfway(start, end), over(share, (2, 1))
            waiting.append((middle, end, half, deeper - 1))
            waiting.append((start, middle, half, deeper - 1))
    return (area, tuple(taken))


def is_even(rule):
    """Tell whether the place mirrored from each is there with its weight, however they stand."""
    found = {place: weight for place, weight in zip(rule.places, rule.weights)}
    return all([found.get(minus((1, 1), place)) == found[place] for place in found])


def none_below(rule):
    """Tell whether no weight is below nought."""
    return all([weight[0] >= 0 for weight in rule.weights])
