"""Where two claims part, which follows from which, and claims exchanged within claims."""

from howeverwide.basics import is_count
from howeverwide.building import claim_table, table_of
from howeverwide.errors import InvalidNumber
from howeverwide.joins import MOST_STANDS, explored_pairs
from howeverwide.tables import parting_row, words_of
from howeverwide.walks import lots_in_turn, mask_of, row_leading_to
from howeverwide.words import check_claim, copied_claim, free_names, is_claim


def both_tables(one, other):
    """Return the list of the names free in two claims, and the least tables of both on these."""
    check_claim(one)
    check_claim(other)
    names = sorted(set(free_names(one) + free_names(other)))
    return names, claim_table(one, names), claim_table(other, names)


def filled(names, row):
    """Return the tuple of a width and of the filling of names that a row is."""
    return (len(row), list(zip(names, words_of(len(names), row))))


def are_alike(one, other):
    """Return whether at every width each filling meets both claims or neither."""
    _, first, last = both_tables(one, other)
    return first == last


def parting(one, other):
    """Return the least width and the first filling, by rows, that meets just one of two claims, None if none does."""
    names, first, last = both_tables(one, other)
    row = parting_row(first, last)
    return None if row is None else filled(names, row)


def enough(one, other):
    """Return a number of widths, from 0 on, of which some parts two claims if any does."""
    _, first, last = both_tables(one, other)
    return len(first[1]) + len(last[1]) - 1


def follows(one, other):
    """Return whether at every width each filling that meets one claim meets the other."""
    return against(one, other) is None


def against(one, other):
    """Return the least width and the first filling, by rows, that meets only the first claim, None if none does."""
    names, first, last = both_tables(one, other)
    pairs, steps = explored_pairs(first, last)
    for number, (stand, behind) in enumerate(pairs):
        if first[2][stand] and not last[2][behind]:
            return filled(names, row_leading_to(steps, number))
    return None


def alike_from(one, other):
    """Return the least width from which on two claims are alike at each width, None if there is none."""
    _, first, last = both_tables(one, other)
    pairs, steps = explored_pairs(first, last)
    lots, back = lots_in_turn(steps, MOST_STANDS)
    parting_pairs = mask_of([pair for pair, (stand, behind) in enumerate(pairs) if first[2][stand] != last[2][behind]])
    parting_widths = [width for width, lot in enumerate(lots) if lot & parting_pairs > 0]
    if len(parting_widths) == 0:
        return 0
    return parting_widths[-1] + 1 if parting_widths[-1] < back else None


def is_always(claim):
    """Return whether each filling meets a claim at every width."""
    return table_of(claim)[2] == [True]


def is_never(claim):
    """Return whether no filling meets a claim at any width."""
    return table_of(claim)[2] == [False]


def part_at(claim, road):
    """Return the part of a claim that a road tells."""
    check_claim(claim)
    return copied_claim(part_behind(claim, road))


def exchanged(claim, road, other):
    """Return the claim with another one in the place that a road tells."""
    check_claim(claim)
    part_behind(claim, road)
    check_claim(other)
    return copied_claim(with_other(claim, road, other))


def part_behind(claim, road):
    """Return the part of a claim that a road tells; what tells none is refused."""
    if not isinstance(road, list):
        raise InvalidNumber(road)
    part = claim
    for place in road:
        if not is_count(place) or place >= len(part) or not is_claim(part[place]):
            raise InvalidNumber(road)
        part = part[place]
    return part


def with_other(claim, road, other):
    """Return a claim with another one in the place that a road, known to be right, tells."""
    if len(road) == 0:
        return other
    place = road[0]
    return claim[:place] + (with_other(claim[place], road[1:], other),) + claim[place + 1:]
