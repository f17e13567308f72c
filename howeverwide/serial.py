"""Serial machines: they read the letters of words, the lowest bits first, and tell letters of others."""

from howeverwide.basics import check_width, is_count, is_count_to, is_step, is_word_of, letters_of
from howeverwide.errors import InvalidMachine, InvalidWord, Unlike
from howeverwide.tables import words_of
from howeverwide.walks import explored, merged

MOST_READ = 4
MOST_TOLD = 2


def is_machine(value):
    """Return whether any value is a machine."""
    if not isinstance(value, tuple) or len(value) != 5:
        return False
    many, told, ahead, steps, tells = value
    if not is_count_to(many, MOST_READ) or not is_count_to(told, MOST_TOLD) or told == 0 or not is_count(ahead):
        return False
    if not isinstance(steps, list) or not isinstance(tells, list) or len(steps) == 0 or len(steps) != len(tells):
        return False
    size = (1 << many) + 1
    if not all([is_step(step, size, len(steps)) for step in steps]):
        return False
    return all([is_step(letters, size, 1 << told) for letters in tells])


def check_machine(machine):
    """Refuse what is no machine."""
    if not is_machine(machine):
        raise InvalidMachine(machine)


def told_words(machine, width, words):
    """Return the list of the words that a machine tells for words of a width."""
    check_machine(machine)
    check_width(width)
    many, told, ahead, steps, tells = machine
    if not isinstance(words, list) or len(words) != many or not all([is_word_of(width, word) for word in words]):
        raise InvalidWord(words)
    row = []
    stand = 0
    for letter in letters_of(width, words) + [end_of(machine)] * ahead:
        row.append(tells[stand][letter])
        stand = steps[stand][letter]
    return words_of(told, row[ahead:])


def machine_table(machine):
    """Return the least table of the words that are read and, behind them, of those that a machine tells for them."""
    check_machine(machine)
    many, told, ahead, steps, tells = machine
    letters = [(letter & ((1 << many) - 1), letter >> many) for letter in range(1 << (many + told))]

    def behind(key):
        return [key_behind(machine, key, read, wanted) for read, wanted in letters]

    keys, key_steps = explored((0, ()), behind, None)
    return merged(many + told, key_steps, [key is not None and is_told_out(machine, key) for key in keys])


def tell_alike(one, other):
    """Return whether two machines tell the same for all words of every width."""
    check_machine(one)
    check_machine(other)
    if one[:2] != other[:2]:
        raise Unlike(other)
    return machine_table(one) == machine_table(other)


def chained(one, other):
    """Return a machine that tells what the other one tells for what the one tells."""
    check_machine(one)
    check_machine(other)
    if other[0] != one[1]:
        raise Unlike(other)
    signs = list(range(end_of(one) + 1))

    def behind(key):
        return [both_behind(one, other, key, sign)[0] for sign in signs]

    keys, steps = explored((0, 0, 0, 0), behind, None)
    tells = [[both_behind(one, other, key, sign)[1] for sign in signs] for key in keys]
    return (one[0], other[1], one[2] + other[2], steps, tells)


def end_of(machine):
    """Return the place of the end in the lists of a machine: it stands behind those of all letters."""
    return 1 << machine[0]


def key_behind(machine, key, read, wanted):
    """Return the key behind a key and a letter that is read, with the letter that is to be told for it.

    A key is a tuple of a stand, and of the letters that are still to be told; None, if another one was told.
    """
    if key is None:
        return None
    _, _, ahead, steps, tells = machine
    stand, waiting = key
    waiting = waiting + (wanted,)
    if len(waiting) > ahead:
        if waiting[0] != tells[stand][read]:
            return None
        waiting = waiting[1:]
    return (steps[stand][read], waiting)


def is_told_out(machine, key):
    """Return whether a machine tells, behind all letters, just those that are still to be told."""
    _, _, ahead, steps, tells = machine
    stand, waiting = key
    end = end_of(machine)
    for _ in range(ahead - len(waiting)):
        stand = steps[stand][end]
    for wanted in waiting:
        if tells[stand][end] != wanted:
            return False
        stand = steps[stand][end]
    return True


def both_behind(one, other, key, sign):
    """Return the key of two chained machines behind a key and a sign, and the letter that is told with it.

    A key tells how many signs the one has read, and how many ends, both up to as many as it
    reads ahead, and the stands of both. The other one waits until what the one tells counts,
    and reads the end once the one has read it as often as it reads ahead.
    """
    read, ended, first, last = key
    is_end = sign == end_of(one)
    if ended > 0 and not is_end:
        # No letter comes behind the end.
        return key, 0
    first_behind = one[3][first][sign]
    ended_behind = min(ended + 1, one[2]) if is_end else ended
    if read < one[2]:
        return (read + 1, ended_behind, first_behind, last), 0
    passed = end_of(other) if is_end and ended == one[2] else one[4][first][sign]
    return (read, ended_behind, first_behind, other[3][last][passed]), other[4][last][passed]
