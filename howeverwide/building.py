"""The tables of claims: built from the tables of their atoms, and least."""

from howeverwide.errors import InvalidNames
from howeverwide.kinds import made_table
from howeverwide.pieces import names_of_piece, piece_of_claim, pieces_in
from howeverwide.walks import least_table
from howeverwide.words import check_claim, check_names, free_names


def table_of(claim):
    """Return the least table of a claim, on its free names."""
    check_claim(claim)
    return claim_table(claim, free_names(claim))


def table_on(claim, names):
    """Return the least table of a claim, on names among which its free names are."""
    check_claim(claim)
    check_names(names)
    if not all([name in names for name in free_names(claim)]):
        raise InvalidNames(names)
    return claim_table(claim, names)


def as_told(claim):
    """Return the "told" that holds exactly where a claim does."""
    return ("told", table_of(claim), free_names(claim))


def claim_table(claim, names):
    """Return the least table of what is known to be a claim, on names among which its free names are."""
    return piece_table(piece_of_claim(claim), names)


def piece_table(piece, names):
    """Return the least table of a piece, on names among which its free names are."""
    read = []
    for part in pieces_in(piece):
        part_names = names_of_piece(part)
        read.append((part_names, piece_table(part, part_names)))
    table, _ = made_table(piece, names, read)
    return least_table(table)
