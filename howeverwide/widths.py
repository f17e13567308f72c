"""Sets of widths: a list that tells the first ones, and a round that tells all behind them."""

from math import lcm

from howeverwide.basics import is_count, is_count_to
from howeverwide.errors import InvalidName, InvalidNumber, InvalidText, InvalidWidth, InvalidWidths

MOST_LATER = 100
WAYS = ("and", "or", "unlike")


def is_widths(value):
    """Return whether a value is widths."""
    if not isinstance(value, tuple) or len(value) != 2:
        return False
    return are_told(value[0]) and are_told(value[1]) and len(value[1]) > 0


def are_told(value):
    """Return whether a value is a list of Booleans."""
    return isinstance(value, list) and all([isinstance(told, bool) for told in value])


def check_widths(widths):
    """Refuse what is no widths."""
    if not is_widths(widths):
        raise InvalidWidths(widths)


def check_wide(width):
    """Refuse what is no count, of any size."""
    if not is_count(width):
        raise InvalidWidth(width)


def has_width(widths, width):
    """Return whether a width is in a set."""
    check_widths(widths)
    check_wide(width)
    return is_in(widths, width)


def is_in(widths, width):
    """Return whether a width is in a set, both being known to be right."""
    ahead, turn = widths
    if width < len(ahead):
        return ahead[width]
    return turn[(width - len(ahead)) % len(turn)]


def plain_widths(widths):
    """Return the plain widths with the same set."""
    check_widths(widths)
    return made_plain(widths[0], widths[1])


def made_plain(ahead, turn):
    """Return the plain widths of these lists."""
    turn = shortest_turn(turn)
    size = len(turn)
    less = 0
    while less < len(ahead) and ahead[-1 - less] == turn[-1 - less % size]:
        less += 1
    begin = size - less % size
    return (ahead[:len(ahead) - less], turn[begin:] + turn[:begin])


def shortest_turn(turn):
    """Return the shortest list that is, repeated, this one."""
    size = 1
    while len(turn) % size != 0 or turn[size:] != turn[:-size]:
        size += 1
    return turn[:size]


def joined_widths(way, one, other):
    """Return the widths that are in two sets as a way says."""
    if way not in WAYS:
        raise InvalidName(way)
    check_widths(one)
    check_widths(other)
    ahead, together = common_lengths(one, other)
    told = [are_joined(way, is_in(one, width), is_in(other, width)) for width in range(ahead + together)]
    return made_plain(told[:ahead], told[ahead:])


def are_joined(way, one, other):
    """Return whether a width is in both, in one at least, or in just one of two sets, as a way says."""
    if way == "and":
        return one and other
    if way == "or":
        return one or other
    return one != other


def common_lengths(one, other):
    """Return lengths of lists, one ahead and one round, that would do for each of two sets."""
    return max(len(one[0]), len(other[0])), lcm(len(one[1]), len(other[1]))


def turned_widths(widths):
    """Return the widths that are not in a set."""
    check_widths(widths)
    return made_plain([not told for told in widths[0]], [not told for told in widths[1]])


def parting_width(one, other):
    """Return the least width that is in just one of two sets, None if there is none."""
    check_widths(one)
    check_widths(other)
    ahead, together = common_lengths(one, other)
    for width in range(ahead + together):
        if is_in(one, width) != is_in(other, width):
            return width
    return None


def later_widths(widths, many):
    """Return all widths that are by so many greater than one in a set."""
    check_widths(widths)
    if not is_count_to(many, MOST_LATER):
        raise InvalidNumber(many)
    return made_plain([False] * many + widths[0], widths[1])


def least_width(widths):
    """Return the least width of a set, None if there is none."""
    check_widths(widths)
    return least_from(widths, 0)


def next_width(widths, width):
    """Return the least width of a set above a width, None if there is none."""
    check_widths(widths)
    check_wide(width)
    return least_from(widths, width + 1)


def least_from(widths, width):
    """Return the least width of a set from a width on, None if there is none."""
    for later in range(width, max(width, len(widths[0])) + len(widths[1])):
        if is_in(widths, later):
            return later
    return None


def greatest_width(widths):
    """Return the greatest width of a set, None if there is none or if they are endless."""
    check_widths(widths)
    if any(widths[1]):
        return None
    found = [width for width, told in enumerate(widths[0]) if told]
    return found[-1] if len(found) > 0 else None


def how_many_below(widths, width):
    """Return how many widths of a set are less than a width."""
    check_widths(widths)
    check_wide(width)
    ahead, turn = widths
    if width <= len(ahead):
        return sum(ahead[:width])
    rounds, rest = divmod(width - len(ahead), len(turn))
    return sum(ahead) + rounds * sum(turn) + sum(turn[:rest])


def width_numbered(widths, number):
    """Return the width of a set that has so many less in it, None if there are not so many."""
    check_widths(widths)
    if not is_count(number):
        raise InvalidNumber(number)
    ahead, turn = widths
    if number < sum(ahead):
        return places_told(ahead)[number]
    if not any(turn):
        return None
    rounds, rest = divmod(number - sum(ahead), sum(turn))
    return len(ahead) + rounds * len(turn) + places_told(turn)[rest]


def places_told(told):
    """Return the places of all that is True in a list."""
    return [place for place, item in enumerate(told) if item]


def text_of_widths(widths):
    """Return the text of widths, as they are handed."""
    check_widths(widths)
    return figures_of(widths[0]) + "(" + figures_of(widths[1]) + ")"


def figures_of(told):
    """Return the figures that stand for a list of Booleans."""
    return "".join(["1" if item else "0" for item in told])


def widths_of_text(text):
    """Return the plain widths of those that have a text."""
    if not isinstance(text, str) or text[-1:] != ")":
        raise InvalidText(text)
    ahead, _, turn = text[:-1].partition("(")
    if turn == "" or not all([figure in "01" for figure in ahead + turn]):
        raise InvalidText(text)
    return made_plain([figure == "1" for figure in ahead], [figure == "1" for figure in turn])
