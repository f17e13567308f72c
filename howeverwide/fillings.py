"""The fillings of a width that a table takes, in Python's order, found by counting rows and not by listing them.

A list of counts has a number for each stand: up to a place, how many rows of the places
below lead to it; from a place on, how many rows of the places from there on lead from it
to an end.
"""

from howeverwide.basics import check_width, is_count, takes_words
from howeverwide.errors import InvalidNames, InvalidNumber, TooMany
from howeverwide.tables import check_table, rows_to, words_of
from howeverwide.words import are_names, check_filling

MOST_LISTED = 500


def check_asked(table, names, width):
    """Refuse what is no table, no list of as many names as it has, in order, each once, and no width."""
    check_table(table)
    if not are_names(names) or len(names) != table[0]:
        raise InvalidNames(names)
    check_width(width)


def is_met(table, names, width, filling):
    """Return whether a table takes a filling."""
    check_asked(table, names, width)
    check_filling(width, names, filling)
    return takes_words(table, width, words_in(filling))


def first_met(table, names, width):
    """Return the first filling that a table takes, None if there is none."""
    check_asked(table, names, width)
    return filling_numbered(table, names, width, 0)


def last_met(table, names, width):
    """Return the last filling that a table takes, None if there is none."""
    check_asked(table, names, width)
    many = how_many_rows(table, width)
    return filling_numbered(table, names, width, many - 1) if many > 0 else None


def next_met(table, names, width, filling):
    """Return the first filling behind another one that a table takes, None if there is none."""
    check_asked(table, names, width)
    check_filling(width, names, filling)
    words = words_in(filling)
    number = rows_ahead(table, width, words)
    if takes_words(table, width, words):
        number += 1
    return filling_numbered(table, names, width, number)


def met_numbered(table, names, width, number):
    """Return the filling that a table takes with so many of them ahead, None if there are not so many."""
    check_asked(table, names, width)
    if not is_count(number):
        raise InvalidNumber(number)
    return filling_numbered(table, names, width, number)


def met_ahead(table, names, width, filling):
    """Return how many fillings that a table takes are ahead of a filling."""
    check_asked(table, names, width)
    check_filling(width, names, filling)
    return rows_ahead(table, width, words_in(filling))


def all_met(table, names, width):
    """Return the list of all fillings that a table takes."""
    check_asked(table, names, width)
    many = how_many_rows(table, width)
    if many > MOST_LISTED:
        raise TooMany(many)
    found = sorted([words_of(len(names), row) for row in rows_to(table, width)])
    return [list(zip(names, words)) for words in found]


def ones_met(table, names, width):
    """Return for each name the list of how many fillings that a table takes have the bits 0, 1, .. of its word 1."""
    check_asked(table, names, width)
    ups = counts_up_to(table, width, [])
    downs = counts_from(table, width)
    many = [rows_by_letter(table, ups[place], downs[place + 1]) for place in range(width)]
    return [[rows_with_bit(rows, number) for rows in many] for number in range(len(names))]


def words_in(filling):
    """Return the words of a filling."""
    return [word for _, word in filling]


def filling_numbered(table, names, width, number):
    """Return the filling that a table takes with so many of them ahead, None if there are not so many."""
    if number >= how_many_rows(table, width):
        return None
    words = []
    for _ in names:
        word, number = word_numbered(table, width, words, number)
        words.append(word)
    return list(zip(names, words))


def how_many_rows(table, width):
    """Return how many rows of a length a table takes."""
    last = counts_up_to(table, width, [])[width]
    return sum([many for many, end in zip(last, table[2]) if end])


def letter_of_words(words, place):
    """Return the letter of words at a place."""
    return sum([((word >> place) & 1) << number for number, word in enumerate(words)])


def counts_up_to(table, width, words):
    """Return the counts up to each place, the first names having these words."""
    counts = [[1] + [0] * (len(table[1]) - 1)]
    for place in range(width):
        # All letters with these bits of the first names stand so far apart, from the first of them on.
        first = letter_of_words(words, place)
        found = [0] * len(table[1])
        for many, step in zip(counts[place], table[1]):
            if many > 0:
                for behind in step[first::1 << len(words)]:
                    found[behind] += many
        counts.append(found)
    return counts


def counts_of_ends(table):
    """Return the counts from the width on."""
    return [1 if end else 0 for end in table[2]]


def counts_from(table, width):
    """Return the counts from each place on."""
    counts = [counts_of_ends(table)]
    for _ in range(width):
        last = counts[-1]
        counts.append([sum([last[behind] for behind in step]) for step in table[1]])
    return counts[::-1]


def rows_by_letter(table, ups, downs):
    """Return for each letter how many rows that a table takes have it at the place between these counts."""
    steps = table[1]
    return [sum([up * downs[behind] for up, behind in zip(ups, stands)]) for stands in zip(*steps)]


def rows_with_bit(rows, number):
    """Return how many rows have letters in which the bit of a name is 1; rows has how many have each letter."""
    return sum([many for letter, many in enumerate(rows) if (letter >> number) & 1 == 1])


def rows_between(ups, downs):
    """Return how many rows there are by the counts up to a place and those from there on."""
    return sum([up * down for up, down in zip(ups, downs)])


def counts_with_bit(table, words, place, bit, later):
    """Return the counts from a place on, the next name behind the first words having this bit there.

    later has the counts from the next place on, the bits of the name from there on being settled.
    """
    first = letter_of_words(words, place) + (bit << len(words))
    return [sum([later[behind] for behind in step[first::2 << len(words)]]) for step in table[1]]


def word_numbered(table, width, words, number):
    """Return the next word, behind the first ones, of the filling with a number among those that begin with these.

    It comes in a tuple with the number of the filling among those that begin with this word, too.
    """
    ups = counts_up_to(table, width, words)
    later = counts_of_ends(table)
    found = 0
    for place in reversed(range(width)):
        low = counts_with_bit(table, words, place, 0, later)
        half = rows_between(ups[place], low)
        if number < half:
            later = low
        else:
            number -= half
            found += 1 << place
            later = counts_with_bit(table, words, place, 1, later)
    return found, number


def rows_ahead(table, width, words):
    """Return how many fillings that a table takes are ahead of that with these words."""
    return sum([rows_below(table, width, words[:number], word) for number, word in enumerate(words)])


def rows_below(table, width, words, word):
    """Return how many fillings that a table takes begin with some words, and have a lesser one than this next."""
    ups = counts_up_to(table, width, words)
    later = counts_of_ends(table)
    below = 0
    for place in reversed(range(width)):
        bit = (word >> place) & 1
        if bit == 1:
            below += rows_between(ups[place], counts_with_bit(table, words, place, 0, later))
        later = counts_with_bit(table, words, place, bit, later)
    return below
