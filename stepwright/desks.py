"""Desks: lines said to a rule's table and a field, answered, written down and done again."""

from stepwright.errors import BadField, BadPaper, BadPart, BadSize, BadStore, BadTable, BadText, BadTree, NoSuch
from stepwright.fields import Field
from stepwright.flows import check_point, step
from stepwright.limits import follows_to, growth
from stepwright.nodes import by_nodes
from stepwright.parts import FIGURES, read, told
from stepwright.tables import Table, is_same_back, keeps_squares, stage_order, turned_back
from stepwright.trees import read_tree, told_tree, trees_up_to

MOST = 10 ** 40
BASE = 9973
WIDE = 2000003
MOST_ORDER = 5
MOST_FOLLOWED = 6


def number(word):
    """Return the number of one or two figures; BadText."""
    if not 0 < len(word) < 3 or word.strip(FIGURES) != "":
        raise BadText(f"no number of one or two figures: {word}")
    return int(word)


def row_of(word):
    """Return the parts of a word with commas between; BadPart."""
    return tuple([read(one) for one in word.split(",")])


def told_row(row):
    """Return a row's text, commas between."""
    return ",".join([told(one) for one in row])


def poly_rows(word, letters):
    """Return the ((powers, part), ..) of a word's terms; BadText, BadPart.

    Semicolons stand between; each is a part, a star and powers, dots between.
    """
    found = []
    for term in word.split(";"):
        head, star, tail = term.partition("*")
        powers = tail.split(".")
        if star == "" or len(powers) != letters:
            raise BadText(f"no term of {letters} letters: {term}")
        found.append((tuple([number(power) for power in powers]), read(head)))
    return tuple(found)


def figure_of(text):
    """Return a text's figure: its signs' numbers added up, then weighed by their places from one on."""
    marks = [ord(sign) for sign in text]
    weighed = sum([mark * place for place, mark in enumerate(marks, start=1)])
    return (sum(marks) % WIDE) * BASE + weighed % BASE


def told_lacks(table, count):
    """Return the texts of a rule's lacking trees up to so many knots, blanks between; BadSize."""
    return " ".join([told_tree(tree) for tree in trees_up_to(count) if table.lack(tree)[0] != 0])


def told_marks(table):
    """Return what a rule is like: stages, stage order, then one or nought for each that it is or is not."""
    marks = [table.is_plain(), table.is_stepwise(), keeps_squares(table), is_same_back(table)]
    counts = [table.stages(), stage_order(table, MOST_ORDER)] + [1 if mark else 0 for mark in marks]
    return " ".join([str(count) for count in counts])


def told_growth(table):
    """Return a rule's growth, top and low with a stroke between, and how far it follows."""
    share = growth(table)
    return f"{told_row(share[0])}|{told_row(share[1])} {follows_to(share, MOST_FOLLOWED)}"


class Desk:
    """A table, a field, a point, and the text of what was done."""

    def __init__(self):
        self.table = None
        self.field = None
        self.point = ()
        self.text = ""
        self.many = 0

    def say(self, line):
        """Do or answer a line; return the answer, "error: ..." for what is refused."""
        try:
            return self.do(line)
        except BadText:
            return "error: text"
        except BadPart:
            return "error: part"
        except BadTree:
            return "error: tree"
        except BadTable:
            return "error: table"
        except BadField:
            return "error: field"
        except BadPaper:
            return "error: paper"
        except BadSize:
            return "error: size"
        except NoSuch:
            return "error: no such"

    def do(self, line):
        """Do or answer a line by its first word; what changes something is written down; BadText."""
        words = line.split()
        if words == [] or "\n" in line:
            raise BadText("no line")
        match words:
            case ["rule", *rows, weights] if 0 < len(rows) < 5:
                return self.let(Table([row_of(row) for row in rows], row_of(weights)), words)
            case ["nodes", places]:
                return self.let(by_nodes(row_of(places)), words)
            case ["back"]:
                return self.let(turned_back(self.here()), words)
            case ["field", *polys] if 0 < len(polys) < 4:
                self.field = Field([poly_rows(one, len(polys)) for one in polys])
                self.point = ((0, 1),) * len(polys)
                return self.write(words, str(len(polys)))
            case ["at", text]:
                point = row_of(text)
                return self.move_to(check_point(self.there(), point), words)
            case ["step", length]:
                table, field = self.here(), self.there()
                return self.move_to(step(table, field, self.point, read(length)), words)
        return self.answer(words)

    def here(self):
        """Return the table; NoSuch for none."""
        if self.table is None:
            raise NoSuch("no rule")
        return self.table

    def there(self):
        """Return the field; NoSuch for none."""
        if self.field is None:
            raise NoSuch("no field")
        return self.field

    def told_point(self):
        """Return the point's text, commas between."""
        return told_row(self.point)

    def let(self, table, words):
        """Let a table be, and write the line down; return its order, up to five knots."""
        order = table.order(MOST_ORDER)
        self.table = table
        return self.write(words, str(order))

    def move_to(self, point, words):
        """Let a point be, and write the line down; return the point's text, BadSize where it is too great."""
        if any(abs(one[0]) >= MOST or one[1] >= MOST for one in point):
            raise BadSize("a point too great")
        self.point = point
        return self.write(words, self.told_point())

    def write(self, words, answer):
        """Write a line down; return an answer."""
        body = " ".join([str(self.many)] + list(words))
        self.text = self.text + f"{body} {figure_of(body)}\n"
        self.many += 1
        return answer

    def answer(self, words):
        """Return what is asked of the table, the field or the point; BadText, BadTree, BadSize, NoSuch."""
        match words:
            case ["point"]:
                return self.told_point()
            case ["weight", text]:
                return told(self.here().weight(read_tree(text)))
            case ["lacks", count]:
                return told_lacks(self.here(), number(count))
            case ["tells"]:
                return told_marks(self.here())
            case ["growth"]:
                return told_growth(self.here())
            case ["slope", text]:
                return told_row(self.there().of_tree(read_tree(text), self.point))
        raise BadText("no line")


def lines_of(text):
    """Return the lines of a written text, a row without an end left out; BadStore."""
    found = []
    for place, row in enumerate(text.split("\n")[:-1]):
        body, _, figure = row.rpartition(" ")
        head, _, line = body.partition(" ")
        if head != str(place) or figure != str(figure_of(body)):
            raise BadStore(f"row {place} isn't whole")
        found.append(line)
    return tuple(found)


def done_again(text):
    """Return the desk that a text's lines make from nothing; BadStore for what can't be."""
    desk = Desk()
    for line in lines_of(text):
        desk.say(line)
    # A line that is refused, that only asks, or that has other blanks is never written so.
    if desk.text != text[:text.rfind("\n") + 1]:
        raise BadStore("a text that no desk writes")
    return desk
