"""The texts of expressions and claims, there and back."""

from howeverwide.errors import InvalidText
from howeverwide.reading import read_claim, read_expression
from howeverwide.signs import COMPARED, PAIRED
from howeverwide.words import check_claim, check_expression, is_claim, is_expression


def text_of_expression(expression):
    """Return the text of an expression."""
    check_expression(expression)
    return written_expression(expression)


def text_of_claim(claim):
    """Return the text of a claim."""
    check_claim(claim)
    return written_claim(claim)


def expression_of_text(text):
    """Return the expression that has a text."""
    check_text(text)
    expression, _ = read_expression(text, 0, 1)
    # Reading lets by what is written otherwise, with a nought ahead or more behind; writing it again tells.
    if not is_expression(expression) or written_expression(expression) != text:
        raise InvalidText(text)
    return expression


def claim_of_text(text):
    """Return the claim that has a text."""
    check_text(text)
    claim, _ = read_claim(text, 0, 1)
    if not is_claim(claim) or written_claim(claim) != text:
        raise InvalidText(text)
    return claim


def check_text(text):
    """Refuse what is no string."""
    if not isinstance(text, str):
        raise InvalidText(text)


def written_expression(expression):
    """Return the text of what is known to be an expression."""
    if not isinstance(expression, tuple):
        return str(expression)
    word = expression[0]
    if word == "turned":
        return "!" + written_expression(expression[1])
    first, last = expression[1], expression[2]
    if word in ("up", "down"):
        first, last = last, first
    return "(" + written_expression(first) + PAIRED[word] + written_expression(last) + ")"


def bracketed(claim):
    """Return the text of a claim in brackets."""
    return "[" + written_claim(claim) + "]"


def written_claim(claim):
    """Return the text of what is known to be a claim."""
    word = claim[0]
    if word in COMPARED:
        return written_expression(claim[1]) + COMPARED[word] + written_expression(claim[2])
    if word == "bit":
        return f"bit {claim[1]} " + written_expression(claim[2])
    if word == "top":
        return "top " + written_expression(claim[1])
    if word in ("then", "iff"):
        return bracketed(claim[1]) + " " + word + " " + bracketed(claim[2])
    if word in ("some", "all"):
        return word + " " + claim[1] + " " + bracketed(claim[2])
    if word == "told":
        return written_told(claim)
    return " ".join([word] + [bracketed(part) for part in claim[1:]])


def written_told(claim):
    """Return the text of a "told"."""
    many, steps, ends = claim[1]
    lists = "/".join([",".join([str(stand) for stand in step]) for step in steps])
    figures = "".join(["1" if end else "0" for end in ends])
    return " ".join([f"told {many}:" + lists + ":" + figures] + claim[2])
