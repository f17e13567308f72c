"""Lots of claims: which can be met, which clash, which follow from the others.

A lot is told by a number, too, whose bit is 1 at the number of each claim in it. A list of
marks has a Boolean for each such number.
"""

from howeverwide.basics import ascends, is_count_to
from howeverwide.errors import InvalidClaims, InvalidNumber
from howeverwide.named import both_take, met_at, named_claim, table_of_names, without_met
from howeverwide.reach import widths_where
from howeverwide.walks import mask_of, stands_of
from howeverwide.widths import check_wide, is_in, joined_widths, turned_widths
from howeverwide.words import check_claim, is_claim, names_free

MOST_CROSSED = 8


def lot_widths(claims, lot):
    """Return the widths at which a lot of claims can be met."""
    check_claims(claims)
    check_lot(claims, lot)
    return met_lot(begun(claims), mask_of(lot))


def can_meet(claims, lot, width):
    """Return whether a lot of claims can be met at a width."""
    check_claims(claims)
    check_lot(claims, lot)
    check_wide(width)
    return is_in(met_lot(begun(claims), mask_of(lot)), width)


def least_clashes(claims, width):
    """Return the list of all least lots that cannot be met at a width."""
    return lots_told(least_masks([not met for met in marks_at(claims, width)]))


def greatest_met(claims, width):
    """Return the list of all greatest lots that can be met at a width."""
    return lots_told(greatest_masks(marks_at(claims, width)))


def mends(claims, width):
    """Return the list of all least lots whose taking away lets the others be met at a width."""
    met = marks_at(claims, width)
    return lots_told([len(met) - 1 - mask for mask in greatest_masks(met)])


def clash_widths(claims, lot):
    """Return the widths at which a lot is a least clash."""
    check_claims(claims)
    check_lot(claims, lot)
    lots = begun(claims)
    found = turned_widths(met_lot(lots, mask_of(lot)))
    for mask in one_fewer(mask_of(lot)):
        found = joined_widths("and", found, met_lot(lots, mask))
    return found


def crossing(many, lots):
    """Return the list of all least lots that have a number in common with each of some lots."""
    if not is_count_to(many, MOST_CROSSED):
        raise InvalidNumber(many)
    if not isinstance(lots, list) or not all([is_lot(lot, many) for lot in lots]):
        raise InvalidClaims(lots)
    masks = [mask_of(lot) for lot in lots]
    return lots_told(least_masks([all([mask & other > 0 for other in masks]) for mask in range(1 << many)]))


def never_met(claims):
    """Return the list of all least lots that can be met at no width."""
    check_claims(claims)
    return lots_told(least_masks([not met for met in marks_ever(claims)]))


def ever_met(claims):
    """Return the list of all greatest lots that can be met at some width."""
    check_claims(claims)
    return lots_told(greatest_masks(marks_ever(claims)))


def following_widths(claims, claim):
    """Return the widths at which a claim follows from all claims of a list."""
    check_claims(claims)
    check_claim(claim)
    lots = begun(claims)
    together = (lots[1], lot_table(lots, all_of(claims)))
    return turned_widths(met_at(without_met(together, named_claim(claim))))


def idle_claims(claims):
    """Return the list of the numbers of the claims each of which follows from all the others at every width."""
    check_claims(claims)
    lots = begun(claims)
    every = all_of(claims)
    fewer = [every - (1 << number) for number in range(len(claims))]
    return [number for number, mask in enumerate(fewer) if lot_table(lots, mask) == lot_table(lots, every)]


def least_bases(claims):
    """Return the list of all least lots from which all other claims follow at every width."""
    check_claims(claims)
    lots = begun(claims)
    every = all_of(claims)
    # The least table of a lot is that of all claims exactly if the others follow from it.
    return lots_told(least_masks([lot_table(lots, mask) == lot_table(lots, every) for mask in range(every + 1)]))


def check_claims(claims):
    """Refuse what is no list of claims."""
    if not isinstance(claims, list) or not all([is_claim(claim) for claim in claims]):
        raise InvalidClaims(claims)


def is_lot(value, many):
    """Return whether a value is an ascending list of numbers below a number."""
    return isinstance(value, list) and all([is_count_to(number, many - 1) for number in value]) and ascends(value)


def check_lot(claims, lot):
    """Refuse what is no lot of numbers of claims."""
    if not is_lot(lot, len(claims)):
        raise InvalidNumber(lot)


def all_of(claims):
    """Return what tells the lot of all claims."""
    return (1 << len(claims)) - 1


def begun(claims):
    """Return the tuple of claims, of their free names, and of the tables, so far none, of lots of them.

    The tables are on all these names, and each one is made just once, when it is asked for.
    """
    return claims, sorted(set([name for claim in claims for name in names_free(claim)])), {}


def lot_table(lots, mask):
    """Return the least table of what meets all claims of a lot."""
    claims, names, known = lots
    if mask not in known:
        last = mask.bit_length() - 1
        if mask == 0:
            known[mask] = (len(names), [[0] * (1 << len(names))], [True])
        elif mask == 1 << last:
            known[mask] = table_of_names(named_claim(claims[last]), names)
        else:
            known[mask] = both_take(lot_table(lots, mask - (1 << last)), lot_table(lots, 1 << last))
    return known[mask]


def met_lot(lots, mask):
    """Return the widths at which a lot can be met."""
    return widths_where(lot_table(lots, mask), True)


def marks_of(many, is_met):
    """Return marks of the lots of so many claims that can be met; of these, is_met tells whether it is one.

    A lot is only asked of if all that lie within it can be met.
    """
    marks = []
    for mask in range(1 << many):
        marks.append(all([marks[fewer] for fewer in one_fewer(mask)]) and is_met(mask))
    return marks


def marks_at(claims, width):
    """Return marks of the lots that can be met at a width; wrong arguments are refused."""
    check_claims(claims)
    check_wide(width)
    lots = begun(claims)

    def is_met(mask):
        return is_in(met_lot(lots, mask), width)

    return marks_of(len(claims), is_met)


def marks_ever(claims):
    """Return marks of the lots that can be met at some width."""
    lots = begun(claims)

    def is_met(mask):
        ends = lot_table(lots, mask)[2]
        return any(ends)

    return marks_of(len(claims), is_met)


def one_fewer(mask):
    """Return what tells the lots that have one claim fewer than a lot."""
    return [mask - (1 << number) for number in stands_of(mask)]


def least_masks(marks):
    """Return what tells the least marked lots, if each lot that has a marked one within is marked, too."""
    return [mask for mask, mark in enumerate(marks) if mark and not any([marks[fewer] for fewer in one_fewer(mask)])]


def greatest_masks(marks):
    """Return what tells the greatest marked lots, if each lot within a marked one is marked, too."""
    within = {fewer: True for mask, mark in enumerate(marks) if mark for fewer in one_fewer(mask)}
    return [mask for mask, mark in enumerate(marks) if mark and mask not in within]


def lots_told(masks):
    """Return the list, in order, of the lots that numbers tell."""
    return sorted([stands_of(mask) for mask in masks])
