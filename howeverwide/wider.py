"""Fillings made wider by one bit, and claims that hold for them still."""

from howeverwide.basics import check_width
from howeverwide.building import table_of
from howeverwide.errors import InvalidFilling, InvalidText
from howeverwide.named import first_filling
from howeverwide.walks import explored, least_table, merged
from howeverwide.words import are_names, check_claim, check_filling, free_names

WAYS = ("noughts", "top")


def widened(width, filling, way):
    """Return a filling with each word one bit wider: by a nought, or by its top bit once more."""
    check_width(width)
    check_some_filling(width, filling)
    check_way(way)
    if way == "noughts" or width == 0:
        return list(filling)
    return [(name, word + (word >> (width - 1) << width)) for name, word in filling]


def kept_wider(claim, way):
    """Return the least width, and the first filling, that meets a claim but not so once widened, None if none does."""
    check_claim(claim)
    check_way(way)
    table = table_of(claim)
    return first_filling((free_names(claim), lost_by_noughts(table) if way == "noughts" else lost_by_top(table)))


def check_some_filling(width, filling):
    """Refuse what is no filling of some names at a width."""
    if not isinstance(filling, list) or not all([isinstance(item, tuple) and len(item) == 2 for item in filling]):
        raise InvalidFilling(filling)
    names = [name for name, _ in filling]
    if not are_names(names):
        raise InvalidFilling(filling)
    check_filling(width, names, filling)


def check_way(way):
    """Refuse what is no way of making fillings wider."""
    if way not in WAYS:
        raise InvalidText(way)


def lost_by_noughts(table):
    """Return the least table of the rows that a table takes, but not with a letter of noughts behind."""
    many, steps, ends = table
    return least_table((many, steps, [end and not ends[step[0]] for end, step in zip(ends, steps)]))


def lost_by_top(table):
    """Return the least table of the rows that a table takes, but not with the last letter once more behind."""
    many, steps, ends = table

    def behind(key):
        return [(stand, letter) for letter, stand in enumerate(steps[key[0]])]

    # At the width 0 the top bits are noughts: so the letter of noughts stands for the last one.
    keys, key_steps = explored((0, 0), behind, None)
    return merged(many, key_steps, [ends[stand] and not ends[steps[stand][letter]] for stand, letter in keys])
