"""Tables made of tables: turned, joined, with names left out, and with other names."""

from howeverwide.basics import MOST_NAMES, is_count, is_count_to
from howeverwide.errors import InvalidName, InvalidNumber
from howeverwide.tables import check_table, check_two_tables
from howeverwide.walks import explored, least_table, mask_of, merged, stands_of

MOST_STANDS = 2000
WAYS = ("and", "or", "unlike", "then")


def turned(table):
    """Return the table that takes the rows that a table does not take."""
    check_table(table)
    return turned_table(least_table(table))


def turned_table(table):
    """Return a table with all other ends; the one of a least table is least, too."""
    many, steps, ends = table
    return (many, steps, [not end for end in ends])


def joined(way, one, other):
    """Return the table that takes a row as both tables, joined in a way, do."""
    if way not in WAYS:
        raise InvalidName(way)
    check_two_tables(one, other)
    pairs, steps = explored_pairs(one, other)
    return merged(one[0], steps, [join_ends(way, one[2][first], other[2][last]) for first, last in pairs])


def explored_pairs(one, other):
    """Return the list of the reached pairs of stands of two tables, and the list of their steps."""

    def behind(pair):
        return list(zip(one[1][pair[0]], other[1][pair[1]]))

    return explored((0, 0), behind, MOST_STANDS)


def join_ends(way, one, other):
    """Return whether a pair is an end, one and the other of which is one or not."""
    if way == "and":
        return one and other
    if way == "or":
        return one or other
    if way == "unlike":
        return one != other
    return other or not one


def some(table, place):
    """Return the table that takes a row if for some bits of the name with a place the table does."""
    check_table(table)
    check_place(table, place)
    return without_name(table, place)


def every(table, place):
    """Return the table that takes a row if for all bits of the name with a place the table does."""
    check_table(table)
    check_place(table, place)
    return turned_table(without_name(turned_table(table), place))


def check_place(table, place):
    """Refuse what is no place of a name of a table."""
    if not is_count_to(place, table[0] - 1):
        raise InvalidNumber(place)


def without_name(table, place):
    """Return the least table that takes a row if for some bits of the name with a place the table does.

    A lot of stands is told by a number: so all stands behind a lot are put together quickly.
    """
    many, steps, ends = table
    letters = [with_bit(letter, place) for letter in range(1 << (many - 1))]
    both = masks_of_both(steps, letters, 1 << place)

    def behind(lot):
        return lots_of_letters(lot, both)

    lots, lot_steps = explored(1, behind, MOST_STANDS)
    end_lot = end_mask(ends)
    return merged(many - 1, lot_steps, [(lot & end_lot) > 0 for lot in lots])


def masks_of_both(steps, letters, bit):
    """Return for each stand, and each of some letters, what tells the stands behind it with and without a bit."""
    return [[(1 << step[letter]) | (1 << step[letter + bit]) for letter in letters] for step in steps]


def lots_of_letters(lot, masks):
    """Return for each letter what tells the lot behind a lot; masks has it for each stand and letter."""
    stands = stands_of(lot)
    found = masks[stands[0]]
    for stand in stands[1:]:
        found = [known | more for known, more in zip(found, masks[stand])]
    return found


def end_mask(ends):
    """Return what tells the lot of all ends."""
    return mask_of([stand for stand, end in enumerate(ends) if end])


def with_bit(letter, place):
    """Return the letter with one name more, whose bit is 0, at a place."""
    low = letter & ((1 << place) - 1)
    return low + 2 * (letter - low)


def placed(table, places, many):
    """Return the table of so many names that reads of them those at places."""
    check_table(table)
    if not isinstance(places, list) or len(places) != table[0] or not all([is_count(place) for place in places]):
        raise InvalidNumber(places)
    if not is_count_to(many, MOST_NAMES) or not all([place < many for place in places]):
        raise InvalidNumber(many)
    return placed_table(table, places, many)


def placed_table(table, places, many):
    """Return the least table of so many names that reads of them those at places."""
    letters = [letter_at(places, letter) for letter in range(1 << many)]
    steps = [[step[letter] for letter in letters] for step in table[1]]
    return least_table((many, steps, table[2]))


def letter_at(places, letter):
    """Return the letter of the names that stand at places of a letter."""
    return sum([((letter >> place) & 1) << number for number, place in enumerate(places)])
