"""The judge of papers: each stand and each letter is looked at once, and nothing is searched."""

from howeverwide.basics import MOST_NAMES, check_width, is_table_form
from howeverwide.joins import lots_of_letters
from howeverwide.kinds import first_key, good_keys, is_stand, key_of_label, key_of_lot, keys_behind
from howeverwide.pieces import is_piece, names_of_piece, piece_of_claim, pieces_in
from howeverwide.words import are_names, check_claim


def is_paper(value):
    """Return whether any value is a right paper."""
    if not has_form(value) or not has_right_parts(value):
        return False
    return are_lots_right(value) if is_around(value) else are_labels_right(value)


def has_form(value):
    """Return whether any value has the form of a paper, whatever its labels and parts are."""
    if not isinstance(value, tuple) or len(value) != 5:
        return False
    piece, names, table, labels, parts = value
    if not is_piece(piece) or not are_names(names) or len(names) > MOST_NAMES:
        return False
    if not all([name in names for name in names_of_piece(piece)]):
        return False
    if not is_table_form(table) or table[0] != len(names):
        return False
    return isinstance(labels, list) and len(labels) == len(table[1]) and isinstance(parts, list)


def is_of(piece, value):
    """Return whether any value is a tuple such as papers are, with this piece."""
    return isinstance(value, tuple) and len(value) == 5 and value[0] == piece


def is_around(paper):
    """Return whether a paper is one around another paper of its piece."""
    return len(paper[4]) == 1 and is_of(paper[0], paper[4][0])


def has_right_parts(paper):
    """Return whether the parts of a paper are right ones of the pieces that it needs, and on the right names."""
    piece, names, _, _, parts = paper
    wanted = [piece] if is_around(paper) else pieces_in(piece)
    if len(parts) != len(wanted) or not all([is_of(one, part) for one, part in zip(wanted, parts)]):
        return False
    # What stands behind the first wrong part is not looked at: parts within parts may be many.
    for part in parts:
        if not is_paper(part):
            return False
    if is_around(paper):
        return parts[0][1] == names
    bound = [piece[1]] if piece[0] == "some" else []
    return all([name in names + bound for part in parts for name in part[1]])


def are_labels_right(paper):
    """Return whether the labels of a paper, the parts of which are right, are those that come of its piece."""
    piece, names, table, labels, parts = paper
    read = [(part[1], part[2]) for part in parts]
    keys = [key_of_label(piece, read, label) for label in labels]
    if None in keys or keys[0] != first_key(piece) or good_keys(piece, read, keys) != table[2]:
        return False
    behind = keys_behind(piece, names, read)
    for key, step in zip(keys, table[1]):
        if behind(key) != [keys[stand] for stand in step]:
            return False
    return True


def are_lots_right(paper):
    """Return whether the labels of a paper around another one, which is right, are lots of stands as they should be."""
    _, _, table, labels, parts = paper
    _, steps, ends = parts[0][2]
    lots = [key_of_lot(parts[0][2], label) for label in labels]
    if None in lots or lots[0] & 1 == 0:
        return False
    masks = [[1 << behind for behind in step] for step in steps]
    for lot, label, step, end in zip(lots, labels, table[1], table[2]):
        if not all([ends[stand] == end for stand in label[1:]]):
            return False
        if not all([found & ~lots[behind] == 0 for found, behind in zip(lots_of_letters(lot, masks), step)]):
            return False
    return True


def is_right_of(claim, value):
    """Return whether any value is a right paper of a claim's piece."""
    return is_of(piece_of_claim(claim), value) and is_paper(value)


def is_no(claim, value):
    """Return whether any value is a right paper of a claim's piece, no stand of which is an end."""
    check_claim(claim)
    return is_right_of(claim, value) and not any(value[2][2])


def is_no_at(width, claim, value):
    """Return whether any value shows, by a right paper and lists of stands, that nothing meets a claim at a width."""
    check_width(width)
    check_claim(claim)
    if not isinstance(value, tuple) or len(value) != 2 or not is_right_of(claim, value[0]):
        return False
    table, lots = value[0][2], value[1]
    if not isinstance(lots, list) or len(lots) != width + 1 or not all([are_stands(table, lot) for lot in lots]):
        return False
    if 0 not in lots[0] or any([table[2][stand] for stand in lots[width]]):
        return False
    return all([leads_into(table, one, other) for one, other in zip(lots, lots[1:])])


def are_stands(table, value):
    """Return whether any value is a list of stands of a table."""
    return isinstance(value, list) and all([is_stand(table, stand) for stand in value])


def leads_into(table, one, other):
    """Return whether all stands behind those of a list stand in another one."""
    marks = {stand: True for stand in other}
    return all([behind in marks for stand in one for behind in table[1][stand]])
