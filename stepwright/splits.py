"""Splits: motions of two parts stepped in turns, their order by words of the two letters."""

from stepwright.errors import BadSize, BadTable
from stepwright.parts import greatest_pair, minus, over, part, plus, raised, times, total
from stepwright.trees import up_to

LETTERS = ("a", "b")
MOST_LETTERS = 7


def check_turns(turns):
    """Return ("a" or "b", part) turns; BadTable for another letter, or none."""
    found = tuple([(letter, part(one[0], one[1])) for letter, one in turns])
    if found == () or any(letter not in LETTERS for letter, one in found):
        raise BadTable("turns are one at least, of the letters a and b")
    return found


def words_of(count):
    """Return all words of the two letters of up to so many, shorter ones first, then in order; BadSize past seven."""
    if not 0 <= count <= MOST_LETTERS:
        raise BadSize(f"no words of up to {count} letters are told")
    found = []
    words = [""]
    for _ in range(count):
        found.extend(words)
        words = [word + letter for word in words for letter in LETTERS]
    return tuple(found + words)


def one_turn(letter, one, count):
    """Return the table of words to parts of a turn of one letter: its power by the product of the numbers."""
    return {letter * power: over(raised(one, power), (up_to(power), 1)) for power in range(count + 1)}


def put_behind(first, second, count):
    """Return the table of words of a first lot of turns and then a second: first letters first."""
    found = {}
    for ahead, mine in first.items():
        for rest, its in second.items():
            word = ahead + rest
            if len(word) <= count:
                found[word] = plus(found.get(word, (0, 1)), times(mine, its))
    return found


def of_turns(turns, count):
    """Return the table of all words of up to so many letters, in order, to parts, noughts too; BadSize, BadTable."""
    row = check_turns(turns)
    words = words_of(count)
    found = {"": (1, 1)}
    for letter, one in row:
        found = put_behind(found, one_turn(letter, one, count), count)
    return {word: found.get(word, (0, 1)) for word in words}


def both_at_once(count):
    """Return the table of words of the motion of both: one by the product of the numbers up to each length; BadSize."""
    return {word: over((1, 1), (up_to(len(word)), 1)) for word in words_of(count)}


def order_of(turns, most):
    """Return up to how many letters all words are those of both at once, no more than told; BadSize, BadTable."""
    found, due = of_turns(turns, most), both_at_once(most)
    # Shorter words come first, so the first that differs has the fewest letters.
    for word in found:
        if found[word] != due[word]:
            return len(word) - 1
    return most


def together(turns):
    """Return turns, those of one letter that meet put together, also once noughts are left out.

    BadTable for none left.
    """
    found = []
    for letter, one in check_turns(turns):
        here = one
        if len(found) > 0 and found[-1][0] == letter:
            here = plus(found.pop()[1], one)
        # A nought is left out at once, so the next turn meets the one ahead of it.
        if here[0] != 0:
            found.append((letter, here))
    return check_turns(found)


def back_turns(turns):
    """Return the turns that undo turns."""
    return tuple([(letter, minus((0, 1), one)) for letter, one in check_turns(turns)[::-1]])


def is_even_turns(turns):
    """Tell whether turns are the same from either end, those that meet put together; BadTable."""
    found = together(turns)
    return found == found[::-1]


def scaled_turns(turns, by):
    """Return turns of a step so many times as long."""
    return tuple([(letter, times(one, by)) for letter, one in check_turns(turns)])


def raised_order(turns, parts):
    """Return the turns of several steps of parts of the length, in turn; BadTable for parts that aren't one in all."""
    if total(parts) != (1, 1):
        raise BadTable("parts of a step that aren't one in all")
    return together([turn for by in parts for turn in scaled_turns(turns, by)])


def greatest_word(turns, count):
    """Return the (word, part less the due one) greatest without its sign of words of so many letters, the first such.

    BadSize, BadTable.
    """
    found, due = of_turns(turns, count), both_at_once(count)
    return greatest_pair([(word, minus(found[word], due[word])) for word in found if len(word) == count])


def letters_of(turns):
    """Return (sum of the parts of "a", of "b"); BadTable."""
    row = check_turns(turns)
    return tuple([total([one for letter, one in row if letter == sought]) for sought in LETTERS])
