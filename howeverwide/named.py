"""Named tables, put together and with names left out; what is handed is known to be right.

A named table is a tuple of a list of names, each once, and of a table of as many: it takes
words of these names, in the order of the list.
"""

from howeverwide.building import claim_table
from howeverwide.fillings import filling_numbered
from howeverwide.joins import end_mask, letter_at, lots_of_letters, placed_table, turned_table
from howeverwide.reach import widths_where
from howeverwide.walks import explored, first_rows, mask_of, merged, stands_ahead
from howeverwide.words import names_free


def named_claim(claim):
    """Return the named table of a claim, on its free names."""
    names = sorted(set(names_free(claim)))
    return names, claim_table(claim, names)


def table_of_names(named, names):
    """Return the least table of a named one on names, in any order, among which all of its own are."""
    own, table = named
    if own == names:
        return table
    return placed_table(table, [names.index(name) for name in own], len(names))


def turned_named(named):
    """Return the named table that takes what a named table does not."""
    return named[0], turned_table(named[1])


def with_other_name(named, name, new):
    """Return a named table that reads a new name in the place of a name."""
    return [new if own == name else own for own in named[0]], named[1]


def living(table):
    """Return for each stand of a table whether some row leads from it to an end."""
    ahead = stands_ahead(table[1])
    lives = list(table[2])
    waiting = [stand for stand, end in enumerate(table[2]) if end]
    while len(waiting) > 0:
        behind = waiting.pop()
        for stand in ahead[behind]:
            if not lives[stand]:
                lives[stand] = True
                waiting.append(stand)
    return lives


def both_take(one, other):
    """Return the least table that takes what two tables of as many names both take."""
    first, last = living(one), living(other)

    def behind(pair):
        # From a pair with a stand that leads to no end nothing is taken: None stands for all such pairs.
        if pair is None:
            return [None] * (1 << one[0])
        return [
            (stand, later) if first[stand] and last[later] else None
            for stand, later in zip(one[1][pair[0]], other[1][pair[1]])
        ]

    pairs, steps = explored((0, 0), behind, None)
    return merged(one[0], steps, [pair is not None and one[2][pair[0]] and other[2][pair[1]] for pair in pairs])


def met_both(one, other):
    """Return the named table, on the names of both in order, that takes what two named tables both take."""
    names = sorted(set(one[0] + other[0]))
    return names, both_take(table_of_names(one, names), table_of_names(other, names))


def without_met(one, other):
    """Return the named table of what the one takes and the other does not."""
    return met_both(one, turned_named(other))


def kept_names(named, names):
    """Return the named table of some of its names that takes words if, for some of the others, it does."""
    own, (_, steps, ends) = named
    if own == names:
        return named
    places = [own.index(name) for name in names]
    lots = [[] for _ in range(1 << len(names))]
    for whole in range(1 << len(own)):
        lots[letter_at(places, whole)].append(whole)
    masks = [[mask_of([step[letter] for letter in lot]) for lot in lots] for step in steps]

    def behind(lot):
        return lots_of_letters(lot, masks)

    found, found_steps = explored(1, behind, None)
    end_lot = end_mask(ends)
    return names, merged(len(names), found_steps, [lot & end_lot > 0 for lot in found])


def takes_nothing(named):
    """Return whether a named table, all stands of which are reached, takes nothing at any width."""
    ends = named[1][2]
    return not any(ends)


def leads_to(one, other):
    """Return whether all that the one takes, at every width, the other takes, too."""
    return takes_nothing(without_met(one, other))


def met_at(named):
    """Return the widths at which a named table takes something."""
    return widths_where(named[1], True)


def first_filling(named):
    """Return the least width at which a named table takes a filling, and the first one in order of its names.

    None if there is none.
    """
    names, table = named
    lengths = [len(row) for stand, row in first_rows(table) if table[2][stand]]
    if len(lengths) == 0:
        return None
    return (lengths[0], filling_numbered(table, names, lengths[0], 0))
