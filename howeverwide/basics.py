"""Numbers, lists and the form of tables: what all other modules stand on."""

from howeverwide.errors import InvalidWidth

MOST_WIDTH = 64
MOST_NAMES = 6


def is_whole(value):
    """Return whether a value is a whole number; a Boolean is none."""
    return isinstance(value, int) and not isinstance(value, bool)


def is_count(value):
    """Return whether a value is a whole number of at least 0."""
    return is_whole(value) and value >= 0


def is_count_to(value, most):
    """Return whether a value is a count of at most so many."""
    return is_whole(value) and 0 <= value <= most


def is_bit(value):
    """Return whether a value is the number 0 or 1."""
    return is_count_to(value, 1)


def is_row(value, many):
    """Return whether a value is a list of letters of so many names."""
    return isinstance(value, list) and all([is_count_to(letter, (1 << many) - 1) for letter in value])


def is_word_of(width, value):
    """Return whether a value is a word of a width that is known to be one."""
    return is_count_to(value, (1 << width) - 1)


def check_width(width):
    """Refuse what is no width of at most 64."""
    check_width_to(width, MOST_WIDTH)


def check_width_to(width, most):
    """Refuse what is no width of at most so many bits."""
    if not is_count_to(width, most):
        raise InvalidWidth(width)


def ascends(items):
    """Return whether each item is greater than the one ahead of it."""
    return all([one < other for one, other in zip(items, items[1:])])


def is_table_form(value):
    """Return whether a value is a table."""
    if not isinstance(value, tuple) or len(value) != 3:
        return False
    many, steps, ends = value
    if not is_count_to(many, MOST_NAMES) or not isinstance(steps, list) or not isinstance(ends, list):
        return False
    if len(steps) == 0 or len(steps) != len(ends):
        return False
    if not all([isinstance(end, bool) for end in ends]):
        return False
    return all([is_step(step, 1 << many, len(steps)) for step in steps])


def is_step(value, size, stands):
    """Return whether a value is a list of so many of the stands from 0 on."""
    if not isinstance(value, list) or len(value) != size:
        return False
    return all([is_count_to(stand, stands - 1) for stand in value])


def copied_table(table):
    """Return an equal table that has no list in common with the one that is handed."""
    many, steps, ends = table
    return (many, [list(step) for step in steps], list(ends))


def letters_of(width, words):
    """Return the row of the letters of words, those of the lowest bits first."""
    row = []
    for place in range(width):
        row.append(sum([((word >> place) & 1) << number for number, word in enumerate(words)]))
    return row


def stand_after(table, row):
    """Return the stand to which a row leads."""
    stand = 0
    for letter in row:
        stand = table[1][stand][letter]
    return stand


def takes_words(table, width, words):
    """Return whether a table takes the row of the letters of words."""
    return table[2][stand_after(table, letters_of(width, words))]
