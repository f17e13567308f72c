"""What expressions and claims mean, reckoned on the words themselves."""

from howeverwide.basics import check_width, takes_words
from howeverwide.words import check_claim, check_expression, check_filling, free_names, names_of_expression


def value(width, expression, filling):
    """Return the value of an expression at a width, its names being filled."""
    check_width(width)
    check_expression(expression)
    check_filling(width, names_of_expression(expression), filling)
    return value_with(width, expression, dict(filling))


def holds(width, claim, filling):
    """Return whether a claim holds at a width, its free names being filled."""
    check_width(width)
    check_claim(claim)
    check_filling(width, free_names(claim), filling)
    return holds_with(width, claim, dict(filling))


def value_with(width, expression, words):
    """Return the value of an expression; words has that of each of its names."""
    if isinstance(expression, str):
        return words[expression]
    return plain_value(width, expression, words) & ((1 << width) - 1)


def plain_value(width, expression, words):
    """Return a number of which the lowest bits are the value of an expression that is no name."""
    if not isinstance(expression, tuple):
        return expression
    word = expression[0]
    last = value_with(width, expression[-1], words)
    if word == "turned":
        return -1 - last
    if word == "times":
        return expression[1] * last
    if word == "up":
        # A shift by the width already leaves nothing, so one by a huge number is never done.
        return last << min(expression[1], width)
    if word == "down":
        return last >> min(expression[1], width)
    first = value_with(width, expression[1], words)
    if word == "plus":
        return first + last
    if word == "minus":
        return first - last
    if word == "both":
        return first & last
    if word == "either":
        return first | last
    return first ^ last


def signed(width, word):
    """Return what a word counts if its top bit counts below 0."""
    if width > 0 and (word >> (width - 1)) == 1:
        return word - (1 << width)
    return word


def bit_is_one(width, place, word):
    """Return whether a bit of a word is 1; beyond the width, and below it, none is."""
    return 0 <= place < width and (word >> place) & 1 == 1


def compares(width, claim, words):
    """Return whether a claim holds that compares the values of expressions."""
    last = value_with(width, claim[-1], words)
    if claim[0] == "bit":
        return bit_is_one(width, claim[1], last)
    if claim[0] == "top":
        return bit_is_one(width, width - 1, last)
    first = value_with(width, claim[1], words)
    if claim[0] == "same":
        return first == last
    if claim[0] == "below":
        return first < last
    return signed(width, first) < signed(width, last)


def holds_with(width, claim, words):
    """Return whether a claim holds; words has that of each of its free names."""
    word = claim[0]
    if word in ("same", "below", "under", "bit", "top"):
        return compares(width, claim, words)
    if word == "told":
        return takes_words(claim[1], width, [words[name] for name in claim[2]])
    if word == "not":
        return not holds_with(width, claim[1], words)
    if word == "and":
        return holds_each(width, claim[1:], words, True)
    if word == "or":
        return not holds_each(width, claim[1:], words, False)
    if word == "then":
        return not holds_with(width, claim[1], words) or holds_with(width, claim[2], words)
    if word == "iff":
        return holds_with(width, claim[1], words) == holds_with(width, claim[2], words)
    return holds_bound(width, claim, words)


def holds_each(width, claims, words, wanted):
    """Return whether each of some claims holds, or whether each does not, as is wanted."""
    for claim in claims:
        if holds_with(width, claim, words) != wanted:
            return False
    return True


def holds_bound(width, claim, words):
    """Return whether a "some" or an "all" holds."""
    wanted = claim[0] == "some"
    inner = dict(words)
    for word in range(1 << width):
        inner[claim[1]] = word
        if holds_with(width, claim[2], inner) == wanted:
            return wanted
    return not wanted
