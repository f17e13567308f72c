"""Machines that tell the wanted words of a claim from the given ones, and how far ahead they must read."""

from howeverwide.alike import filled
from howeverwide.basics import is_count, is_count_to, is_row, letters_of, stand_after, takes_words
from howeverwide.choices import all_pairs, first_steps, first_untold, lasting_pairs, moves_of, parted_for, read_claim
from howeverwide.errors import InvalidNames, InvalidNumber, Unlike
from howeverwide.fillings import words_in
from howeverwide.joins import letter_at
from howeverwide.named import kept_names, without_met
from howeverwide.serial import check_machine, machine_table
from howeverwide.tables import first_taken
from howeverwide.walks import explored, first_row_where, first_rows
from howeverwide.words import are_names, free_names, is_filling_of

MOST_WANTED = 2
MOST_GIVEN = 4
MOST_TOLD_WIDTH = 64


def untold(claim, wanted):
    """Return the first filling of the given names for which not just one choice of wanted words meets a claim.

    It comes with its width and with how many choices do, 0, or 2 for more; None if there is no such filling.
    """
    check_wanted(claim, wanted)
    read = read_claim(claim, wanted)
    found = first_untold(read)
    if found is None:
        return None
    row, many = found
    width, filling = filled(given_names(read), row)
    return (width, filling, many)


def not_enough(claim, wanted, ahead):
    """Return two fillings that show that so many bits ahead are not enough, with a place, None if they are."""
    read = told_ahead(claim, wanted, ahead)
    steps = parted_for(moves_of(read), ahead)
    if steps is None:
        return None
    names, table = read[0], read[3]
    start = dict(first_rows(table))[steps[0][0][0]]
    one, other = [
        start + [step[1 + side] for step, _ in steps] + row_to_end(table, steps[-1][1][side]) for side in (0, 1)
    ]
    return (len(start), filled(names, one), filled(names, other))


def is_not_enough(claim, wanted, ahead, value):
    """Return whether any value is a place and two fillings that show that so many bits ahead are not enough."""
    read = told_ahead(claim, wanted, ahead)
    if not isinstance(value, tuple) or len(value) != 3 or not is_count(value[0]):
        return False
    place, one, other = value
    if not is_met_beyond(read, one, place + ahead) or not is_met_beyond(read, other, place + ahead):
        return False
    first, last = letters_of(one[0], words_in(one[1])), letters_of(other[0], words_in(other[1]))
    _, given, chosen, _ = read
    if letter_at(chosen, first[place]) == letter_at(chosen, last[place]):
        return False
    upto = place + ahead + 1
    return all([letter_at(given, letter) == letter_at(given, like) for letter, like in zip(first[:upto], last[:upto])])


def bits_ahead(claim, wanted):
    """Return the least number of bits ahead that are enough, None if no number is."""
    check_wanted(claim, wanted)
    return bits_of_moves(moves_of(told_read(claim, wanted)))


def barring_ring(claim, wanted):
    """Return a ring that shows that no number of bits ahead is enough, None if some number is."""
    check_wanted(claim, wanted)
    read = told_read(claim, wanted)
    moves = moves_of(read)
    pairs = all_pairs(moves)
    lasting = {pair: True for pair in lasting_pairs(pairs)[1]}
    if len(lasting) == 0:
        return None
    way, back = way_round(moves, pairs, lasting)
    start = dict(first_rows(read[3]))[way[0][0][0]]
    heads = [start + [step[1 + side] for step, _ in way[:back]] for side in (0, 1)]
    turns = [[step[1 + side] for step, _ in way[back:]] for side in (0, 1)]
    _, given, _, _ = read
    ends = way[-1][1]
    one, other = [told_round(read, heads[side], turns[side], row_to_end(read[3], ends[side])) for side in (0, 1)]
    return (letters_at(given, heads[0]), letters_at(given, turns[0]), one, other)


def is_barring_ring(claim, wanted, value):
    """Return whether any value is a ring that shows, by the stands to which it leads, that no number is enough."""
    check_wanted(claim, wanted)
    read = told_read(claim, wanted)
    if not isinstance(value, tuple) or len(value) != 4:
        return False
    head, turn, one, other = value
    many = len(read[1])
    if not is_row(head, many) or not is_row(turn, many) or len(turn) == 0:
        return False
    if not is_round(read, head, turn, one) or not is_round(read, head, turn, other):
        return False
    return one[0] != other[0]


def machine_for(claim, wanted):
    """Return a machine that tells the wanted words of a claim, with as few bits ahead as can be, None if none does."""
    check_wanted(claim, wanted)
    read = told_read(claim, wanted)
    moves = moves_of(read)
    ahead = bits_of_moves(moves)
    if ahead is None:
        return None
    _, given, chosen, table = read
    told_moves = [[[(letter_at(chosen, letter), later) for letter, later in row] for row in rows] for rows in moves]
    signs = list(range((1 << len(given)) + 1))

    def behind(key):
        return [key_behind(told_moves, table[2], ahead, key, sign)[0] for sign in signs]

    keys, steps = explored(((((), 0),), 0), behind, None)
    tells = [[key_behind(told_moves, table[2], ahead, key, sign)[1] for sign in signs] for key in keys]
    return (len(given), len(chosen), ahead, steps, tells)


def undone(machine, claim, wanted):
    """Return the first filling of the given names for which a machine tells others than the wanted words.

    It comes with its width; None if there is no such filling.
    """
    check_machine(machine)
    check_wanted(claim, wanted)
    read = told_read(claim, wanted)
    given = given_names(read)
    if machine[:2] != (len(given), len(wanted)):
        raise Unlike(machine)
    missed = without_met((read[0], read[3]), (given + wanted, machine_table(machine)))
    row = first_taken(kept_names(missed, given)[1])
    return None if row is None else filled(given, row)


def check_wanted(claim, wanted):
    """Refuse what is no claim, and what is no list of one or two of its free names that leaves at most four others."""
    free = free_names(claim)
    if not are_names(wanted) or not is_count_to(len(wanted), MOST_WANTED) or len(wanted) == 0:
        raise InvalidNames(wanted)
    if not all([name in free for name in wanted]) or len(free) - len(wanted) > MOST_GIVEN:
        raise InvalidNames(wanted)


def told_read(claim, wanted):
    """Return what is read of a claim; one that does not tell the wanted words is refused."""
    read = read_claim(claim, wanted)
    if first_untold(read) is not None:
        raise Unlike(claim)
    return read


def told_ahead(claim, wanted, ahead):
    """Return what is read of a claim; all that is wrong with it, and what is no number of bits ahead, is refused."""
    check_wanted(claim, wanted)
    if not is_count(ahead):
        raise InvalidNumber(ahead)
    return told_read(claim, wanted)


def given_names(read):
    """Return the list of the given names."""
    names, given, _, _ = read
    return [names[place] for place in given]


def letters_at(places, row):
    """Return the letters of the names at places of those of a row."""
    return [letter_at(places, letter) for letter in row]


def whole_letter(read, given_letter, wanted_letter):
    """Return the letter of all names with the given and the wanted bits of two letters."""
    _, given, chosen, _ = read
    bits = [(place, (given_letter >> number) & 1) for number, place in enumerate(given)]
    bits.extend([(place, (wanted_letter >> number) & 1) for number, place in enumerate(chosen)])
    return sum([bit << place for place, bit in bits])


def row_to_end(table, stand):
    """Return the shortest row from a stand to an end, which there is."""

    def behind(key):
        return table[1][key]

    def is_end(key):
        return table[2][key]

    return first_row_where(stand, behind, is_end)


def is_met_beyond(read, value, place):
    """Return whether any value is a tuple of a width beyond a place and of a filling that meets the claim."""
    names, _, _, table = read
    if not isinstance(value, tuple) or len(value) != 2:
        return False
    width, filling = value
    if not is_count_to(width, MOST_TOLD_WIDTH) or width <= place or not is_filling_of(width, names, filling):
        return False
    return takes_words(table, width, words_in(filling))


def bits_of_moves(moves):
    """Return how many bits ahead are enough for a claim with these moves, None if no number is."""
    looks, lasting = lasting_pairs(all_pairs(moves))
    return looks if len(lasting) == 0 else None


def way_round(moves, pairs, lasting):
    """Return steps through lasting pairs, and the number of that behind which a pair comes that comes back at last."""
    way = [(step, pair) for pair, step in first_steps(moves).items() if pair in lasting][:1]
    at = {}
    while way[-1][1] not in at:
        pair = way[-1][1]
        at[pair] = len(way)
        way.append([(step, later) for later, step in pairs[pair].items() if later in lasting][0])
    return way, at[way[-1][1]]


def told_round(read, head, turn, tail):
    """Return one side of a ring: its wanted letters, and those of the tail with the given ones."""
    _, given, chosen, _ = read
    ending = [(letter_at(given, letter), letter_at(chosen, letter)) for letter in tail]
    return (letters_at(chosen, head), letters_at(chosen, turn), ending)


def is_round(read, head, turn, value):
    """Return whether any value is one side of a ring: behind the turn the table is where it was, and the tail meets."""
    if not isinstance(value, tuple) or len(value) != 3:
        return False
    first, turned, tail = value
    _, given, chosen, table = read
    if not is_row(first, len(chosen)) or not is_row(turned, len(chosen)) or not isinstance(tail, list):
        return False
    if len(first) != len(head) or len(turned) != len(turn):
        return False
    if not all([isinstance(item, tuple) and len(item) == 2 for item in tail]):
        return False
    if not is_row([letter for letter, _ in tail], len(given)):
        return False
    if not is_row([letter for _, letter in tail], len(chosen)):
        return False
    ahead = [whole_letter(read, *letters) for letters in zip(head, first)]
    around = [whole_letter(read, *letters) for letters in zip(turn, turned)]
    stand = stand_after(table, ahead)
    if stand_after(table, ahead + around) != stand:
        return False
    return table[2][stand_after(table, ahead + [whole_letter(read, *letters) for letters in tail])]


def key_behind(told_moves, ends, ahead, key, sign):
    """Return the key of the machine of a claim behind a key and a sign, and the wanted letter that is told with it.

    A key is a tuple of the choices that go on so far, in order, and of how many ends are read. A
    choice is a tuple of the wanted letters that wait to be told, and of the stand to which it
    leads. All waits until as many signs are read as are read ahead.
    """
    choices, ended = key
    if sign == len(told_moves[0]):
        # Where the words end just one choice meets the claim; from then on its stand does not matter.
        rows = [row for row, stand in choices if ended > 0 or ends[stand]]
        choices, ended = ((rows[0], 0),), ended + 1
    elif ended > 0:
        # No letter comes behind the end.
        return key, 0
    else:
        choices = choices_behind(told_moves, choices, sign)
    waiting = choices[0][0]
    if len(waiting) + ended <= ahead:
        return (choices, ended), 0
    if len(waiting) == 0:
        return key, 0
    # As the bits ahead are enough, the first letter that waits is the same in all choices.
    return (tuple([(row[1:], stand) for row, stand in choices]), ended), waiting[0]


def choices_behind(told_moves, choices, letter):
    """Return the choices that go on behind a given letter, in order."""
    found = [(row + (wanted,), behind) for row, stand in choices for wanted, behind in told_moves[stand][letter]]
    return tuple(sorted(found))
