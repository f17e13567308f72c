"""Pieces: claims taken apart into atoms, which compare names alone."""

from howeverwide.atoms import is_atom, names_of_atom
from howeverwide.basics import check_width, copied_table, is_whole
from howeverwide.errors import InvalidClaim
from howeverwide.labels import holds_of_words
from howeverwide.puts import fresh_name, marked
from howeverwide.words import check_claim, check_expression, check_filling, claims_in, first_word, is_name
from howeverwide.words import names_standing, swept_claim, with_claims

# The expressions that are parts of sums, and are not taken apart further.
WHOLE_PARTS = ("both", "either", "unlike", "down")
LINKS = ("not", "and", "or", "iff", "some")


def gathered(expression):
    """Return the sum that an expression is: the tuple of the list of its terms and of a whole number."""
    check_expression(expression)
    return gathered_terms(expression)


def gathered_terms(expression):
    """Return the sum that is known to be an expression."""
    parts, factors = [], []
    c = gather(expression, 1, parts, factors)
    terms = [(k, part) for part, k in zip(parts, factors) if k != 0]
    names = sorted([(name, k) for k, name in terms if isinstance(name, str)])
    return [(k, name) for name, k in names] + [term for term in terms if not isinstance(term[1], str)], c


def gather(expression, k, parts, factors):
    """Add k times an expression to a sum of parts, each taken as often as its factor; return the number beside them."""
    word = first_word(expression)
    if isinstance(expression, str) or word in WHOLE_PARTS:
        add_part(expression, k, parts, factors)
        return 0
    if is_whole(expression):
        return k * expression
    if word == "turned":
        return gather(expression[1], -k, parts, factors) - k
    if word == "times":
        return gather(expression[2], k * expression[1], parts, factors)
    if word == "up":
        return gather(expression[2], k << expression[1], parts, factors)
    first = gather(expression[1], k, parts, factors)
    return first + gather(expression[2], k if word == "plus" else -k, parts, factors)


def add_part(part, k, parts, factors):
    """Add k times a part to a sum, behind all others if it has not come up yet."""
    if part in parts:
        factors[parts.index(part)] += k
    else:
        parts.append(part)
        factors.append(k)


def is_piece(value):
    """Return whether a value is a piece."""
    word = first_word(value)
    if word not in LINKS:
        return is_atom(value)
    if word == "some":
        return len(value) == 3 and is_name(value[1]) and is_piece(value[2])
    if (word == "not" and len(value) != 2) or (word == "iff" and len(value) != 3):
        return False
    # What stands behind the first misfit is not looked at: parts within parts may be many.
    for part in value[1:]:
        if not is_piece(part):
            return False
    return True


def check_piece(piece):
    """Refuse what is no piece."""
    if not is_piece(piece):
        raise InvalidClaim(piece)


def pieces_in(piece):
    """Return the pieces that stand directly in a piece, in order."""
    if piece[0] == "some":
        return [piece[2]]
    if piece[0] in LINKS:
        return list(piece[1:])
    return []


def copied_piece(piece):
    """Return an equal piece that has no list in common with the one that is handed."""
    if piece[0] == "some":
        return ("some", piece[1], copied_piece(piece[2]))
    if piece[0] in LINKS:
        parts = [copied_piece(part) for part in piece[1:]]
        return (piece[0], *parts)
    if piece[0] == "sum":
        return ("sum", list(piece[1]), piece[2])
    if piece[0] == "told":
        return ("told", copied_table(piece[1]), list(piece[2]))
    return piece


def piece_holds(width, piece, filling):
    """Return whether a piece holds at a width, its free names being filled."""
    check_width(width)
    check_piece(piece)
    check_filling(width, names_of_piece(piece), filling)
    return holds_filled(width, piece, dict(filling))


def holds_filled(width, piece, words):
    """Return whether a piece holds; words has that of each of its free names."""
    word = piece[0]
    if word not in LINKS:
        return holds_of_words(piece, width, words)
    if word == "some":
        return holds_for_some(width, piece, words)
    if word == "not":
        return not holds_filled(width, piece[1], words)
    if word == "iff":
        return holds_filled(width, piece[1], words) == holds_filled(width, piece[2], words)
    # The first part that settles an "and" or an "or" is enough.
    for part in piece[1:]:
        if holds_filled(width, part, words) == (word == "or"):
            return word == "or"
    return word == "and"


def holds_for_some(width, piece, words):
    """Return whether a "some" holds."""
    inner = dict(words)
    for word in range(1 << width):
        inner[piece[1]] = word
        if holds_filled(width, piece[2], inner):
            return True
    return False


def free_in_piece(piece):
    """Return the free names of a piece, in order, each once."""
    check_piece(piece)
    return names_of_piece(piece)


def names_of_piece(piece):
    """Return the free names of what is known to be a piece."""
    if piece[0] not in LINKS:
        return names_of_atom(piece)
    names = [name for part in pieces_in(piece) for name in names_of_piece(part)]
    if piece[0] == "some":
        return [name for name in names if name != piece[1]]
    return sorted(set(names))


def piece_of(claim):
    """Return a piece that holds at every width exactly where a claim does."""
    check_claim(claim)
    return piece_of_claim(claim)


def piece_of_claim(claim):
    """Return the piece of what is known to be a claim."""
    return taken_apart(swept_claim(claim), marked(names_standing(claim)))


def taken_apart(claim, taken):
    """Return the piece of a claim that has been swept; taken has the names that are not to be made."""
    word = claim[0]
    if word == "same":
        return sum_piece(("minus", claim[1], claim[2]), taken)
    if word in ("below", "under", "top"):
        return with_names(claim[1:], taken, claim[:1])
    if word == "bit":
        return with_names(claim[2:], taken, claim[:2])
    return with_claims(claim, [taken_apart(part, taken) for part in claims_in(claim)])


def with_names(expressions, taken, begin):
    """Return the piece that begins so, with a name for each of some expressions behind."""

    def finish(names):
        return (*begin, *names)

    return named(expressions, [], taken, finish)


def named(left, names, taken, finish):
    """Return the piece that gives a name to each expression that is left, within them all what finish makes.

    finish gets the names of all expressions, those of the earlier ones, which are handed, first.
    """
    if len(left) == 0:
        return finish(names)
    if isinstance(left[0], str):
        return named(left[1:], names + [left[0]], taken, finish)
    name = fresh_name(taken)
    told = telling(name, left[0], taken)
    return ("some", name, ("and", told, named(left[1:], names + [name], taken, finish)))


def telling(name, expression, taken):
    """Return the piece that tells that a name is an expression that is none."""
    word = first_word(expression)
    if word == "down":
        return with_names(expression[2:], taken, ("down", expression[1], name))
    if word in WHOLE_PARTS:
        return with_names(expression[1:], taken, ("bits", word, name))
    return sum_piece(("minus", expression, name), taken)


def sum_piece(expression, taken):
    """Return the piece that tells that an expression is 0."""
    terms, c = gathered_terms(expression)

    def finish(names):
        ordered = sorted(zip(names, [k for k, _ in terms]))
        return ("sum", [(k, name) for name, k in ordered], c)

    return named([part for _, part in terms], [], taken, finish)


def most_names(piece):
    """Return how many free names a piece, or any piece within it, has at most."""
    check_piece(piece)
    return most_free(piece)


def most_free(piece):
    """Return how many free names are the most in what is known to be a piece, or in any piece within it."""
    return max([len(names_of_piece(piece))] + [most_free(part) for part in pieces_in(piece)])
