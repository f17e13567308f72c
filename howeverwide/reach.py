"""The widths at which a table takes something, and those at which a claim can be met."""

from howeverwide.basics import ascends
from howeverwide.building import table_of
from howeverwide.joins import MOST_STANDS
from howeverwide.judge import are_stands, is_right_of
from howeverwide.papers import paper_of
from howeverwide.tables import check_table
from howeverwide.walks import lot_behind, lots_in_turn, mask_of, masks_behind, stands_of
from howeverwide.widths import made_plain
from howeverwide.words import check_claim


def lots_reached(table):
    """Return the lots of stands behind rows of 0, 1, .. letters: those met once, and those of the round."""
    check_table(table)
    return lots_of_table(table)


def lots_of_table(table):
    """Return such lists for what is known to be a table."""
    masks, back = lots_in_turn(table[1], MOST_STANDS)
    lots = [stands_of(mask) for mask in masks]
    return (lots[:back], lots[back:])


def taken_widths(table):
    """Return the widths at which a table takes some row."""
    check_table(table)
    return widths_where(table, True)


def full_widths(table):
    """Return the widths at which a table takes all rows."""
    check_table(table)
    return widths_where(table, False)


def widths_where(table, some_end):
    """Return the widths whose lot has an end, or else those of whose lot all stands are ends."""
    ahead, turn = lots_of_table(table)
    told = [is_met_lot(table, lot, some_end) for lot in ahead + turn]
    return made_plain(told[:len(ahead)], told[len(ahead):])


def is_met_lot(table, lot, some_end):
    """Return whether a lot has an end, or else whether all of its stands are ends."""
    ends = [table[2][stand] for stand in lot]
    return any(ends) if some_end else all(ends)


def met_widths(claim):
    """Return the widths at which a claim holds for some filling."""
    return taken_widths(table_of(claim))


def sure_widths(claim):
    """Return the widths at which a claim holds for all fillings."""
    return full_widths(table_of(claim))


def met_from(claim):
    """Return the least width from which on a claim can be met at every width, None if there is none."""
    return from_on(met_widths(claim))


def sure_from(claim):
    """Return the least width from which on a claim holds for all fillings at every width, None if there is none."""
    return from_on(sure_widths(claim))


def from_on(widths):
    """Return the least width from which on every width is in plain widths, None if there is none."""
    # The last one ahead in plain widths is unlike the round's last one: so it is no width of such a set.
    return len(widths[0]) if all(widths[1]) else None


def widths_paper(claim):
    """Return the tuple of the paper of a claim and of the lots reached in its table."""
    paper = paper_of(claim)
    return (paper, lots_of_table(paper[2]))


def is_widths_paper(claim, value):
    """Return whether any value is a right paper of a claim's piece, and the lists of the lots reached in its table."""
    check_claim(claim)
    if not isinstance(value, tuple) or len(value) != 2 or not is_pair_of_lists(value[1]):
        return False
    if not is_right_of(claim, value[0]):
        return False
    ahead, turn = value[1]
    return len(turn) > 0 and are_in_turn(value[0][2], ahead + turn, len(ahead))


def is_pair_of_lists(value):
    """Return whether a value is a tuple of two lists."""
    return isinstance(value, tuple) and len(value) == 2 and isinstance(value[0], list) and isinstance(value[1], list)


def are_in_turn(table, lots, back):
    """Return whether lots are those behind rows of 0, 1, .. letters, that with a number coming behind the last one."""
    if not all([are_stands(table, lot) and ascends(lot) for lot in lots]) or lots[0] != [0]:
        return False
    behind = masks_behind(table[1])
    masks = [mask_of(lot) for lot in lots]
    following = masks[1:] + [masks[back]]
    return all([lot_behind(lot, behind) == later for lot, later in zip(masks, following)])
