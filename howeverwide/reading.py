"""Reading texts from the left: what is read, and where it ends.

Each function gets the whole text, the place at which it begins to read, and as how deep a
knot the one that it reads counts; it returns a tuple of what it has read and of the place
behind it. What is read may still be no expression or claim, or have another text.
"""

from howeverwide.errors import InvalidText
from howeverwide.signs import COMPARED, PAIRED
from howeverwide.words import FIGURES, LETTERS

MOST_DEEP = 30
# Python refuses to make numbers of more figures than some thousands.
MOST_FIGURES_READ = 4000


def signs_from(text, at, signs):
    """Return the longest piece of a text, from a place on, that is made of these signs."""
    end = at
    while end < len(text) and text[end] in signs:
        end += 1
    return text[at:end]


def behind_sign(text, at, sign):
    """Return the place behind a sign that must stand here."""
    end = at + len(sign)
    if text[at:end] != sign:
        raise InvalidText(text)
    return end


def number_of(text, figures):
    """Return the number with these figures, which stand in the text; whatever else they are is refused."""
    if figures == "" or len(figures) > MOST_FIGURES_READ or signs_from(figures, 0, FIGURES) != figures:
        raise InvalidText(text)
    return int(figures)


def read_number(text, at):
    """Read a number, perhaps below 0."""
    if text[at:at + 1] == "-":
        figures = signs_from(text, at + 1, FIGURES)
        return -number_of(text, figures), at + 1 + len(figures)
    figures = signs_from(text, at, FIGURES)
    return number_of(text, figures), at + len(figures)


def read_expression(text, at, deep):
    """Read an expression."""
    if deep > MOST_DEEP:
        raise InvalidText(text)
    sign = text[at:at + 1]
    if sign == "(":
        return read_pair(text, at + 1, deep)
    if sign == "!":
        inner, end = read_expression(text, at + 1, deep + 1)
        return ("turned", inner), end
    name = signs_from(text, at, LETTERS + FIGURES)
    if name == "" or name[0] in FIGURES:
        return read_number(text, at)
    return name, at + len(name)


def read_pair(text, at, deep):
    """Read two expressions, the sign between them, and the parenthesis behind."""
    first, at = read_expression(text, at, deep + 1)
    word = word_of_sign(text, at)
    last, end = read_expression(text, at + len(PAIRED[word]), deep + 1)
    if word in ("up", "down"):
        first, last = last, first
    return (word, first, last), behind_sign(text, end, ")")


def word_of_sign(text, at):
    """Return the first word of the expressions that have the sign that stands here between their parts."""
    for word, sign in PAIRED.items():
        if text[at:at + len(sign)] == sign:
            return word
    raise InvalidText(text)


def read_claim(text, at, deep):
    """Read a claim."""
    if deep > MOST_DEEP:
        raise InvalidText(text)
    if text[at:at + 1] == "[":
        return read_linked(text, at, deep)
    word = signs_from(text, at, LETTERS + FIGURES)
    behind = at + len(word)
    if word in ("not", "and", "or"):
        return read_listed(text, behind, deep, word)
    if word in ("some", "all"):
        return read_bound(text, behind, deep, word)
    if word == "told":
        return read_told(text, behind)
    if word == "top":
        last, end = read_expression(text, behind_sign(text, behind, " "), deep + 1)
        return ("top", last), end
    if word == "bit":
        place, behind = read_number(text, behind_sign(text, behind, " "))
        last, end = read_expression(text, behind_sign(text, behind, " "), deep + 1)
        return ("bit", place, last), end
    return read_compared(text, at, deep)


def read_compared(text, at, deep):
    """Read a claim that begins with an expression."""
    first, behind = read_expression(text, at, deep + 1)
    for word, sign in COMPARED.items():
        if text[behind:behind + len(sign)] == sign:
            last, end = read_expression(text, behind + len(sign), deep + 1)
            return (word, first, last), end
    raise InvalidText(text)


def read_bracketed(text, at, deep):
    """Read a claim in brackets, which stands in the claim that is so deep."""
    claim, end = read_claim(text, behind_sign(text, at, "["), deep + 1)
    return claim, behind_sign(text, end, "]")


def read_linked(text, at, deep):
    """Read a claim that begins with one in brackets."""
    first, behind = read_bracketed(text, at, deep)
    for word in ("then", "iff"):
        sign = " " + word + " "
        if text[behind:behind + len(sign)] == sign:
            last, end = read_bracketed(text, behind + len(sign), deep)
            return (word, first, last), end
    raise InvalidText(text)


def read_listed(text, at, deep, word):
    """Read what stands behind a word that has claims in brackets, as many as there are."""
    parts = []
    while text[at:at + 2] == " [":
        part, at = read_bracketed(text, at + 1, deep)
        parts.append(part)
    return (word, *parts), at


def read_bound(text, at, deep, word):
    """Read what stands behind a "some" or an "all"."""
    at = behind_sign(text, at, " ")
    name = signs_from(text, at, LETTERS + FIGURES)
    claim, end = read_bracketed(text, behind_sign(text, at + len(name), " "), deep)
    return (word, name, claim), end


def read_told(text, at):
    """Read what stands behind a "told"."""
    at = behind_sign(text, at, " ")
    figures = signs_from(text, at, FIGURES + ",/:")
    at += len(figures)
    table = table_of_figures(text, figures)
    names = []
    while len(names) < table[0]:
        at = behind_sign(text, at, " ")
        name = signs_from(text, at, LETTERS + FIGURES)
        names.append(name)
        at += len(name)
    return ("told", table, names), at


def table_of_figures(text, figures):
    """Return what these figures, which stand in the text, tell as a table."""
    pieces = figures.split(":")
    if len(pieces) != 3:
        raise InvalidText(text)
    many, lists, ends = pieces
    steps = [[number_of(text, stand) for stand in step.split(",")] for step in lists.split("/")]
    return (number_of(text, many), steps, [end == "1" for end in ends])
