"""Sheets: texts of lines, each of them the text of a claim, or a note."""

from howeverwide.errors import InvalidClaims, InvalidText
from howeverwide.texts import check_text, claim_of_text, written_claim
from howeverwide.words import is_claim

LINE_END = "\n"
NOTE = "#"
TAB = "\t"


def sheet_of(claims):
    """Return the sheet whose lines are the texts of some claims."""
    if not isinstance(claims, list) or not all([is_claim(claim) for claim in claims]):
        raise InvalidClaims(claims)
    return written_sheet(claims)


def claims_of_sheet(text):
    """Return the claims of a sheet, without its notes."""
    check_text(text)
    claims, many = read_sheet(text)
    if many < len(text):
        raise InvalidText(text)
    return claims


def good_part(text):
    """Return the claims of the longest part of a text, from its begin on, that is a sheet, and how long it is."""
    check_text(text)
    return read_sheet(text)


def written_sheet(claims):
    """Return the sheet of what is known to be a list of claims."""
    return "".join([written_claim(claim) + LINE_END for claim in claims])


def read_sheet(text):
    """Return the claims of the longest part of a text that is a sheet, and how long it is."""
    claims = []
    many = 0
    # What stands behind the last end of a line is no line.
    for line in text.split(LINE_END)[:-1]:
        if not is_note(line):
            claim = claim_of_line(line)
            if claim is None:
                return (claims, many)
            claims.append(claim)
        many += len(line) + 1
    return (claims, many)


def is_note(line):
    """Return whether a line is a note."""
    return line.startswith(NOTE) and all([" " <= sign <= "~" or sign == TAB for sign in line])


def claim_of_line(line):
    """Return the claim whose text a line is, None if it is that of none."""
    try:
        return claim_of_text(line)
    except InvalidText:
        return None
