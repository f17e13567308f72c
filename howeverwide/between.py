"""What lies between two claims that clash, and chains along a row of claims that do."""

from howeverwide.basics import check_width_to, is_table_form
from howeverwide.errors import InvalidClaim, InvalidClaims
from howeverwide.fillings import how_many_rows
from howeverwide.named import first_filling, kept_names, leads_to, met_at, met_both, named_claim, takes_nothing
from howeverwide.named import turned_named
from howeverwide.tables import MOST_ROW_WIDTH
from howeverwide.widths import check_wide, is_in, turned_widths
from howeverwide.words import check_claim, is_claim, names_free


def shared_names(one, other):
    """Return the names, in order, that are free in both of two claims."""
    check_claim(one)
    check_claim(other)
    return shared_of(names_free(one), names_free(other))


def clash(one, other):
    """Return whether no filling meets both claims, at any width."""
    return takes_nothing(both_claims(one, other))


def clash_at(width, one, other):
    """Return whether no filling meets both claims at a width."""
    check_wide(width)
    return not is_in(met_at(both_claims(one, other)), width)


def clashing_widths(one, other):
    """Return the widths at which no filling meets both claims."""
    return turned_widths(met_at(both_claims(one, other)))


def meeting(one, other):
    """Return the least width and the first filling that meets both claims, None if none does."""
    return first_filling(both_claims(one, other))


def strongest(one, other):
    """Return the least table of the shared names that takes all words with which the one claim can be met."""
    return bounds(one, other)[0]


def weakest(one, other):
    """Return the least table of the shared names that takes all words with which the other claim cannot be met."""
    return bounds(one, other)[1]


def is_between(one, other, value):
    """Return whether any value is a table of the shared names between two claims."""
    low, high = bounds(one, other)
    if not is_table_form(value) or value[0] != low[0]:
        return False
    names = shared_names(one, other)
    return leads_to((names, low), (names, value)) and leads_to((names, value), (names, high))


def how_many_open(width, one, other):
    """Return how many lists of words of the shared names a table between two claims may take or not."""
    check_width_to(width, MOST_ROW_WIDTH)
    low, high = bounds(one, other)
    names = shared_names(one, other)
    if not leads_to((names, low), (names, high)):
        raise InvalidClaim(other)
    return how_many_rows(high, width) - how_many_rows(low, width)


def only_between(one, other):
    """Return the only least table between two claims, None if there are more, or none."""
    low, high = bounds(one, other)
    return low if low == high else None


def chain(claims):
    """Return the chain along a row of claims whose tables take the least, None if all claims can be met together."""
    check_row_of_claims(claims)
    tables = [named_claim(claim) for claim in claims]
    links = []
    met = tables[0]
    for names, table in zip(carried_names(claims), tables[1:]):
        link = kept_names(met, names)
        links.append((names, link[1]))
        met = met_both(link, table)
    return links if takes_nothing(met) else None


def is_chain(claims, value):
    """Return whether any value is a chain along a row of claims."""
    check_row_of_claims(claims)
    tables = [named_claim(claim) for claim in claims]
    if not are_links(carried_names(claims), value):
        return False
    met = tables[0]
    for link, table in zip(value, tables[1:]):
        if not leads_to(met, link):
            return False
        met = met_both(link, table)
    return takes_nothing(met)


def shared_of(one, other):
    """Return the names, in order, each once, that stand in two lists."""
    return sorted(set([name for name in one if name in other]))


def named_claims(one, other):
    """Return the named tables of two claims; what is no claim is refused."""
    check_claim(one)
    check_claim(other)
    return named_claim(one), named_claim(other)


def both_claims(one, other):
    """Return the named table of what meets both of two claims, on all their free names."""
    first, last = named_claims(one, other)
    return met_both(first, last)


def bounds(one, other):
    """Return the strongest and the weakest table of two claims."""
    first, last = named_claims(one, other)
    names = shared_of(first[0], last[0])
    return kept_names(first, names)[1], turned_named(kept_names(last, names))[1]


def check_row_of_claims(claims):
    """Refuse what is no list of at least two claims."""
    if not isinstance(claims, list) or len(claims) < 2 or not all([is_claim(claim) for claim in claims]):
        raise InvalidClaims(claims)


def carried_names(claims):
    """Return for each place of a row of claims, but the last one, the names that are carried there."""
    free = [names_free(claim) for claim in claims]
    carried = []
    for place in range(1, len(claims)):
        ahead = [name for names in free[:place] for name in names]
        behind = [name for names in free[place:] for name in names]
        carried.append(shared_of(ahead, behind))
    return carried


def are_links(carried, value):
    """Return whether any value is a list of tuples of these lists of names and of tables of as many."""
    if not isinstance(value, list) or len(value) != len(carried):
        return False
    return all([is_link(names, link) for names, link in zip(carried, value)])


def is_link(names, value):
    """Return whether any value is a tuple of these names and of a table of as many."""
    if not isinstance(value, tuple) or len(value) != 2 or value[0] != names:
        return False
    return is_table_form(value[1]) and value[1][0] == len(names)
