"""Names, words, expressions and claims as data."""

from howeverwide.basics import MOST_WIDTH, ascends, check_width, copied_table, is_bit, is_count, is_table_form
from howeverwide.basics import is_whole, is_word_of
from howeverwide.errors import InvalidClaim, InvalidExpression, InvalidFilling, InvalidName, InvalidNames
from howeverwide.errors import InvalidNumber, InvalidWord

LETTERS = "abcdefghijklmnopqrstuvwxyz"
FIGURES = "0123456789"
MOST_LETTERS = 6
MOST_FIGURES = 4
NO_NAMES = ("all", "and", "bit", "iff", "not", "or", "some", "then", "told", "top", "under")

# What stands behind the first word of each expression, claim and atom, in order.
EXPRESSION_PARTS = {
    "plus": ("expression", "expression"),
    "minus": ("expression", "expression"),
    "times": ("whole", "expression"),
    "both": ("expression", "expression"),
    "either": ("expression", "expression"),
    "unlike": ("expression", "expression"),
    "turned": ("expression",),
    "up": ("count", "expression"),
    "down": ("count", "expression"),
}
CLAIM_PARTS = {
    "same": ("expression", "expression"),
    "below": ("expression", "expression"),
    "under": ("expression", "expression"),
    "bit": ("count", "expression"),
    "top": ("expression",),
    "not": ("claim",),
    "then": ("claim", "claim"),
    "iff": ("claim", "claim"),
    "some": ("name", "claim"),
    "all": ("name", "claim"),
    "told": ("table", "names"),
}


def is_name(value):
    """Return whether a value is a name."""
    if not isinstance(value, str) or value in NO_NAMES:
        return False
    letters = 0
    while letters < len(value) and value[letters] in LETTERS:
        letters += 1
    return 1 <= letters <= MOST_LETTERS and is_name_end(value[letters:])


def is_name_end(text):
    """Return whether a text can stand behind the letters of a name."""
    if text == "":
        return True
    if len(text) > MOST_FIGURES or not all([sign in FIGURES for sign in text]):
        return False
    return text == "0" or text[0] != "0"


def is_word(width, value):
    """Return whether a value is a word of a width."""
    check_width(width)
    return is_word_of(width, value)


def first_word(value):
    """Return the string with which a tuple begins; the empty one for what has none."""
    if isinstance(value, tuple) and len(value) > 0 and isinstance(value[0], str):
        return value[0]
    return ""


def fits(kind, value):
    """Return whether a value can be a part of this kind."""
    if kind == "expression":
        return is_expression(value)
    if kind == "claim":
        return is_claim(value)
    if kind == "whole":
        return is_whole(value)
    if kind == "count":
        return is_count(value)
    if kind == "name":
        return is_name(value)
    if kind == "way":
        return value in ("both", "either", "unlike")
    if kind == "table":
        return is_table_form(value)
    return is_list_of_names(value) and len(set(value)) == len(value)


def has_parts(kinds, value):
    """Return whether just parts of these kinds stand behind the first word of a tuple."""
    if kinds is None or len(value) != len(kinds) + 1:
        return False
    # What stands behind the first misfit is not looked at: parts within parts may be many.
    for kind, part in zip(kinds, value[1:]):
        if not fits(kind, part):
            return False
    return True


def is_expression(value):
    """Return whether a value is an expression."""
    if isinstance(value, tuple):
        return has_parts(EXPRESSION_PARTS.get(first_word(value)), value)
    return is_whole(value) or is_name(value)


def is_claim(value):
    """Return whether a value is a claim."""
    word = first_word(value)
    if word == "told":
        return is_told(value)
    return has_parts(claim_parts(value), value)


def claim_parts(value):
    """Return of which kinds the parts of a claim with this first word are, None if there is no such claim."""
    word = first_word(value)
    if word in ("and", "or"):
        return ("claim",) * (len(value) - 1)
    return CLAIM_PARTS.get(word)


def is_told(value):
    """Return whether a value that begins with "told" is a claim."""
    return has_parts(CLAIM_PARTS["told"], value) and len(value[2]) == value[1][0]


def is_list_of_names(value):
    """Return whether a value is a list of names."""
    return isinstance(value, list) and all([is_name(name) for name in value])


def are_names(value):
    """Return whether a value is a list of names, in order, each once."""
    return is_list_of_names(value) and ascends(value)


def is_filling(width, names, value):
    """Return whether a value is a filling of names at a width."""
    check_width(width)
    check_names(names)
    return is_filling_of(width, names, value)


def is_filling_of(width, names, value):
    """Return whether a value is a filling of names, both known to be right, at a width."""
    if not isinstance(value, list) or len(value) != len(names):
        return False
    return all([is_filled(width, name, item) for name, item in zip(names, value)])


def is_filled(width, name, value):
    """Return whether a value is the tuple of a name and a word."""
    return isinstance(value, tuple) and len(value) == 2 and value[0] == name and is_word_of(width, value[1])


def check_name(name):
    """Refuse what is no name."""
    if not is_name(name):
        raise InvalidName(name)


def check_names(names):
    """Refuse what is no list of names, in order, each once."""
    if not are_names(names):
        raise InvalidNames(names)


def check_expression(expression):
    """Refuse what is no expression."""
    if not is_expression(expression):
        raise InvalidExpression(expression)


def check_claim(claim):
    """Refuse what is no claim."""
    if not is_claim(claim):
        raise InvalidClaim(claim)


def check_filling(width, names, filling):
    """Refuse what is no filling of just these names at the width."""
    if not is_filling_of(width, names, filling):
        raise InvalidFilling(filling)


def parts_of(knot):
    """Return the claims and expressions that stand directly in a claim or an expression, in order."""
    if not isinstance(knot, tuple):
        return []
    kinds = claim_parts(knot)
    if kinds is None:
        kinds = EXPRESSION_PARTS[knot[0]]
    return [part for kind, part in zip(kinds, knot[1:]) if kind in ("expression", "claim")]


def with_claims(claim, claims):
    """Return a claim, but no "told", in which other claims stand for those directly in it."""
    if first_word(claim) in ("some", "all"):
        return (claim[0], claim[1], claims[0])
    if claim_parts(claim)[:1] == ("claim",):
        return (claim[0], *claims)
    return claim


def with_expressions(knot, expressions):
    """Return a claim or an expression in which other expressions stand for those directly in it."""
    if first_word(knot) in ("times", "up", "down", "bit"):
        return (knot[0], knot[1], expressions[0])
    if len(expressions) > 0:
        return (knot[0], *expressions)
    return knot


def claims_in(claim):
    """Return the claims that stand directly in a claim, in order."""
    return [part for part in parts_of(claim) if is_claim_word(first_word(part))]


def is_claim_word(word):
    """Return whether claims begin with this word."""
    return word in ("and", "or") or word in CLAIM_PARTS


def copied_told(claim):
    """Return an equal "told" that has no list in common with the one that is handed."""
    return ("told", copied_table(claim[1]), list(claim[2]))


def copied_claim(claim):
    """Return an equal claim that has no list in common with the one that is handed."""
    if claim[0] == "told":
        return copied_told(claim)
    return with_claims(claim, [copied_claim(part) for part in claims_in(claim)])


def names_standing(knot):
    """Return the names that stand anywhere in a claim or an expression, in any order, perhaps more than once."""
    if isinstance(knot, str):
        return [knot]
    names = []
    if first_word(knot) in ("some", "all"):
        names.append(knot[1])
    if first_word(knot) == "told":
        names.extend(list(knot[2]))
    for part in parts_of(knot):
        names.extend(names_standing(part))
    return names


def names_free(knot):
    """Return the names that stand free in a claim or an expression, in any order, perhaps more than once."""
    if isinstance(knot, str):
        return [knot]
    names = []
    if first_word(knot) == "told":
        names.extend(list(knot[2]))
    for part in parts_of(knot):
        names.extend(names_free(part))
    if first_word(knot) in ("some", "all"):
        return [name for name in names if name != knot[1]]
    return names


def names_of_expression(expression):
    """Return the names in an expression, in order, each once."""
    check_expression(expression)
    return sorted(set(names_standing(expression)))


def free_names(claim):
    """Return the free names of a claim, in order, each once."""
    check_claim(claim)
    return sorted(set(names_free(claim)))


def how_many_knots(claim):
    """Return how many claims and expressions stand in a claim, itself among them."""
    check_claim(claim)
    return knots_in(claim)


def knots_in(knot):
    """Return how many claims and expressions stand in a claim or an expression, itself among them."""
    return 1 + sum([knots_in(part) for part in parts_of(knot)])


def bits_of(width, word):
    """Return the bits of a word, the lowest one first."""
    check_width(width)
    if not is_word_of(width, word):
        raise InvalidWord(word)
    return [(word >> place) & 1 for place in range(width)]


def word_of_bits(bits):
    """Return the word that has these bits, the lowest one first."""
    if not isinstance(bits, list) or len(bits) > MOST_WIDTH or not all([is_bit(bit) for bit in bits]):
        raise InvalidNumber(bits)
    return sum([bit << place for place, bit in enumerate(bits)])


def swept(claim):
    """Return a claim that holds where the one that is handed does, without "then" and "all"."""
    check_claim(claim)
    return swept_claim(claim)


def swept_claim(claim):
    """Return what is known to be a claim without "then" and "all"."""
    if claim[0] == "told":
        return copied_told(claim)
    claims = [swept_claim(part) for part in claims_in(claim)]
    if claim[0] == "then":
        return ("or", ("not", claims[0]), claims[1])
    if claim[0] == "all":
        return ("not", ("some", claim[1], ("not", claims[0])))
    return with_claims(claim, claims)
