"""Rows: rules that step by several earlier points and slopes, made, their order, and whether errors stay small."""

from stepwright.areas import base_of
from stepwright.curves import between, curve, divided, powers, slope, worth
from stepwright.errors import BadField, BadSize, BadTable
from stepwright.parts import dot, halfway, minus, over, scaled, small_row, times
from stepwright.roots import inside_circle


class Steps:
    """Parts for points and for slopes, from the eldest on; the newest point's is not nought."""

    def __init__(self, points, slopes):
        self.points = small_row(points)
        self.slopes = small_row(slopes)
        if len(self.points) < 2 or len(self.points) != len(self.slopes):
            raise BadTable(f"parts for {len(self.points)} points and {len(self.slopes)} slopes")
        if self.points[-1][0] == 0:
            raise BadTable("the newest point's part is nought")

    def lack(self, power):
        """Return what a rule lacks for a power of the place, from the eldest on; BadSize below nought."""
        one = powers(power)
        places = places_from_eldest(len(self.points))
        by_points_alone = dot(self.points, [worth(one, place) for place in places])
        return minus(by_points_alone, dot(self.slopes, [worth(slope(one), place) for place in places]))

    def order(self, most):
        """Return the greatest power up to which nothing lacks, -1 for none, no more than told; BadSize."""
        if most < 0:
            raise BadSize(f"no order up to {most} is told")
        for power in range(most + 1):
            if self.lack(power)[0] != 0:
                return power - 1
        return most

    def is_steady(self):
        """Tell whether all roots of the points' polynomial lie within the circle of one, but one itself, once."""
        others, rest = divided(curve(self.points), ((-1, 1), (1, 1)))
        # The circle itself doesn't lie within: one as a root again is told there.
        return rest == () and inside_circle(others)

    def is_plain(self):
        """Tell whether the newest slope isn't asked."""
        return self.slopes[-1][0] == 0

    def next_point(self, field, points, length):
        """Return the next point behind earlier ones by a plain rule; BadField for another count, or rule."""
        if not self.is_plain() or len(points) != len(self.points) - 1:
            raise BadField(f"a plain rule steps from {len(self.points) - 1} points")
        slopes = [field.at(point) for point in points]
        found = []
        for letter in range(field.size()):
            way = dot(self.slopes[:-1], [row[letter] for row in slopes])
            found.append(next_part(self, [point[letter] for point in points], times(length, way)))
        return tuple(found)

    def shown(self):
        """Return (points, slopes)."""
        return (self.points, self.slopes)


def places_from_eldest(count):
    """Return so many places, nought for the eldest."""
    return [(place, 1) for place in range(count)]


def next_part(rule, earlier, way):
    """Return a letter's newest part by its earlier ones, and the length times the slopes with their parts."""
    return over(minus(way, dot(rule.points[:-1], earlier)), rule.points[-1])


def by_slopes(count):
    """Return the plain rule of so many earlier slopes of the greatest order; BadSize below one."""
    return by_areas(count, count - 1, 1)


def by_slopes_and_newest(count):
    """Return the rule of so many earlier slopes and the newest of the greatest order; BadSize below one."""
    return by_areas(count, count, 1)


def by_areas(count, last, steps_back):
    """Return the rule that goes on by the area under the curve through slopes from the eldest up to a last; BadSize.

    The last is a place. The area begins so many steps back from the newest point, and is what is put
    to the point there.
    """
    if count < 1:
        raise BadSize(f"a rule of {count} earlier points")
    places = places_from_eldest(last + 1)
    start, end = count - steps_back, count
    slopes = [between(base_of(places, at), (start, 1), (end, 1)) for at in range(last + 1)]
    points = [0] * (count + 1)
    points[end] += 1
    points[start] -= 1
    return Steps([(one, 1) for one in points], slopes + [(0, 1)] * (count - last))


def by_points(count):
    """Return the rule by which the curve through so many earlier points and the newest has the newest slope.

    That slope's part is one; BadSize below one.
    """
    if count < 1:
        raise BadSize(f"a rule of {count} earlier points")
    places = places_from_eldest(count + 1)
    points = [worth(slope(base_of(places, at)), (count, 1)) for at in range(count + 1)]
    return Steps(points, [(0, 1)] * count + [(1, 1)])


def walked(rule, field, points, length, count):
    """Return points and so many more behind each other by a plain rule; BadField, BadSize below nought."""
    if count < 0:
        raise BadSize(f"no {count} steps")
    found = [tuple(point) for point in points]
    back = len(rule.points) - 1
    for _ in range(count):
        found.append(rule.next_point(field, found[-back:], length))
    return tuple(found)


def same_rule(one, other):
    """Tell whether two rules are the same but for a part that both rows are times."""
    by = over(one.points[-1], other.points[-1])
    return one.shown() == (scaled(other.points, by), scaled(other.slopes, by))


def greatest_growth(rule, count):
    """Return noughts with an error of one at the newest, then the points of so many steps without slopes; BadSize."""
    if count < 0:
        raise BadSize(f"no {count} steps")
    back = len(rule.points) - 1
    found = [(0, 1)] * (back - 1) + [(1, 1)]
    for _ in range(count):
        found.append(next_part(rule, found[-back:], (0, 1)))
    return tuple(found)


def midst(one, other):
    """Return the rule of half of each of two of one length; BadTable for unlike lengths."""
    if len(one.points) != len(other.points):
        raise BadTable(f"rules of {len(one.points)} and {len(other.points)} points")
    points = [halfway(mine, its) for mine, its in zip(one.points, other.points)]
    slopes = [halfway(mine, its) for mine, its in zip(one.slopes, other.slopes)]
    return Steps(points, slopes)
