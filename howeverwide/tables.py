"""Tables: which rows they take, least ones, and where two of them part."""

from howeverwide.basics import MOST_NAMES, check_width, check_width_to, is_count_to, is_row, is_table_form, is_word_of
from howeverwide.basics import letters_of, stand_after
from howeverwide.errors import InvalidNumber, InvalidTable, InvalidWord, Unlike
from howeverwide.walks import first_rows, least_table, lot_numbers

MOST_ROW_WIDTH = 300


def is_table(value):
    """Return whether a value is a table."""
    return is_table_form(value)


def check_table(table):
    """Refuse what is no table."""
    if not is_table_form(table):
        raise InvalidTable(table)


def check_two_tables(one, other):
    """Refuse what is no table, and two tables that have not as many names."""
    check_table(one)
    check_table(other)
    if one[0] != other[0]:
        raise Unlike(other)


def check_many(many):
    """Refuse what is no number of names of a table."""
    if not is_count_to(many, MOST_NAMES):
        raise InvalidNumber(many)


def check_row(many, row):
    """Refuse what is no row of letters of so many names."""
    if not is_row(row, many):
        raise InvalidNumber(row)


def stand_behind(table, row):
    """Return the stand to which a row leads."""
    check_table(table)
    check_row(table[0], row)
    return stand_after(table, row)


def takes(table, row):
    """Return whether a table takes a row."""
    return table_ends(table, stand_behind(table, row))


def table_ends(table, stand):
    """Return whether a stand of a table is an end."""
    return table[2][stand]


def row_of(width, words):
    """Return the row of the bits of words, the lowest ones first."""
    check_width(width)
    if not isinstance(words, list) or len(words) > MOST_NAMES:
        raise InvalidWord(words)
    if not all([is_word_of(width, word) for word in words]):
        raise InvalidWord(words)
    return letters_of(width, words)


def words_of(many, row):
    """Return so many words, whose row is the one that is handed."""
    check_many(many)
    check_row(many, row)
    words = []
    for number in range(many):
        words.append(sum([((letter >> number) & 1) << place for place, letter in enumerate(row)]))
    return words


def reached(table):
    """Return the list of the tuples of all reached stands and their first rows."""
    check_table(table)
    return first_rows(table)


def first_taken(table):
    """Return the first row that a table takes, shorter ones first, None if it takes none."""
    check_table(table)
    for stand, row in first_rows(table):
        if table_ends(table, stand):
            return row
    return None


def alike_stands(table):
    """Return the list of the ascending lists of all stands that are alike."""
    check_table(table)
    lots = {}
    for stand, number in enumerate(lot_numbers(table[1], table[2])):
        lots.setdefault(number, []).append(stand)
    return list(lots.values())


def least(table):
    """Return the table with the fewest stands that takes the same rows."""
    check_table(table)
    return least_table(table)


def is_least(table):
    """Return whether a table is its own least one."""
    check_table(table)
    return least_table(table) == table


def leader_of(leaders, stand):
    """Return the stand that stands for all with which this one is put together."""
    while leaders[stand] != stand:
        leaders[stand] = leaders[leaders[stand]]
        stand = leaders[stand]
    return stand


def put_together(leaders, one, other):
    """Put two stands together; return whether they were apart."""
    first, last = leader_of(leaders, one), leader_of(leaders, other)
    leaders[last] = first
    return first != last


def parting_row(one, other):
    """Return the first row that just one of two tables takes, None if there is none."""
    check_two_tables(one, other)
    shift = len(one[1])
    steps = one[1] + [[stand + shift for stand in step] for step in other[1]]
    ends = one[2] + other[2]
    leaders = list(range(len(steps)))
    put_together(leaders, 0, shift)
    # A pair whose stands were put together already is parted, if at all, by what parts an
    # earlier pair: so it need not be looked at, and the first row is found all the same.
    pairs = [(0, shift, 0, 0)]
    at = 0
    while at < len(pairs):
        first, last = pairs[at][:2]
        if ends[first] != ends[last]:
            return row_to(pairs, at)
        for letter, behind in enumerate(steps[first]):
            if put_together(leaders, behind, steps[last][letter]):
                pairs.append((behind, steps[last][letter], at, letter))
        at += 1
    return None


def row_to(pairs, at):
    """Return the row that leads to a pair; each pair but the first tells which one is ahead, and the letter."""
    row = []
    while at > 0:
        row.append(pairs[at][3])
        at = pairs[at][2]
    return row[::-1]


def rows_to(table, width):
    """Return the list, in order, of all rows of a length that a table takes."""
    check_table(table)
    check_width_to(width, MOST_ROW_WIDTH)
    hopes = hopes_to(table, width)
    rows = [(0, [])] if hopes[width][0] else []
    for left in reversed(range(width)):
        rows = [
            (behind, row + [letter])
            for stand, row in rows
            for letter, behind in enumerate(table[1][stand])
            if hopes[left][behind]
        ]
    return [row for _, row in rows]


def hopes_to(table, width):
    """Return for each length up to a width the list that tells from which stands such a row leads to an end."""
    behind = [sorted(set(step)) for step in table[1]]
    hopes = [list(table[2])]
    while len(hopes) <= width:
        last = hopes[-1]
        hopes.append([any([last[stand] for stand in stands]) for stands in behind])
    return hopes


def list_table(many, rows):
    """Return the table that takes just the rows of a list."""
    check_many(many)
    if not isinstance(rows, list) or not all([is_row(row, many) for row in rows]):
        raise InvalidNumber(rows)
    nothing = 1
    steps = [[nothing] * (1 << many), [nothing] * (1 << many)]
    ends = [False, False]
    for row in rows:
        stand = 0
        for letter in row:
            if steps[stand][letter] == nothing:
                steps[stand][letter] = len(steps)
                steps.append([nothing] * (1 << many))
                ends.append(False)
            stand = steps[stand][letter]
        ends[stand] = True
    return least_table((many, steps, ends))
