"""What holds in all fillings that meet a claim, at every width."""

from howeverwide.atoms import atom_table, is_atom
from howeverwide.basics import is_bit, is_count_to, is_whole
from howeverwide.errors import InvalidClaim, InvalidName, InvalidNumber
from howeverwide.named import first_filling, kept_names, living, met_at, met_both, named_claim, turned_named
from howeverwide.named import with_other_name, without_met
from howeverwide.widths import turned_widths
from howeverwide.words import check_claim, copied_claim, names_free

MOST_PLACE = 8
MOST_SUM = 2
# No claim has such names, and they stand in order behind all names.
FIRST_WORD = "~1"
LAST_WORD = "~2"


def two_words(claim, name):
    """Return what shows that a claim leaves more than one word to a name, None if it never does."""
    check_free(claim, name)
    met = named_claim(claim)
    low, high = with_other_name(met, name, FIRST_WORD), with_other_name(met, name, LAST_WORD)
    less = ([FIRST_WORD, LAST_WORD], atom_table(("below", "x", "y"), ["x", "y"])[0])
    found = first_filling(met_both(met_both(low, high), less))
    if found is None:
        return None
    width, filling = found
    return (width, filling[:-2], filling[-2][1], filling[-1][1])


def no_word(claim, name):
    """Return what shows that a claim leaves no word to a name, None if it never does."""
    check_free(claim, name)
    met = named_claim(claim)
    return first_filling(turned_named(kept_names(met, [other for other in met[0] if other != name])))


def mattering(claim, name):
    """Return what shows that the word of a name matters to a claim, None if it never does."""
    check_free(claim, name)
    met = named_claim(claim)
    found = first_filling(without_met(met, with_other_name(met, name, FIRST_WORD)))
    if found is None:
        return None
    width, filling = found
    return (width, filling[:-1], filling[-1][1])


def without(claim, name):
    """Return the claim that holds where a claim does for some word of a name."""
    check_free(claim, name)
    return ("some", name, copied_claim(claim))


def bit_always(claim, name, place, bit):
    """Return the widths at which a bit of a name is a certain one in all fillings that meet a claim."""
    check_free(claim, name)
    if not is_count_to(place, MOST_PLACE):
        raise InvalidNumber(place)
    check_bit(bit)
    return bit_widths(claim, ("bit", place, name), bit)


def top_always(claim, name, bit):
    """Return the widths at which the top bit of a name is a certain one in all fillings that meet a claim."""
    check_free(claim, name)
    check_bit(bit)
    return bit_widths(claim, ("top", name), bit)


def always_equal(claim):
    """Return the list of all tuples of free names that have one word in all fillings that meet a claim."""
    return pairs_with(claim, False)


def always_turned(claim):
    """Return the list of all tuples of free names, each the other one turned, in all fillings that meet a claim."""
    return pairs_with(claim, True)


def kept_sums(claim, most):
    """Return the list of all sums with few numbers that hold in all fillings that meet a claim."""
    check_claim(claim)
    if not is_count_to(most, MOST_SUM) or most == 0:
        raise InvalidNumber(most)
    names, table = named_claim(claim)
    steps = living_steps(table)
    kept = []
    for row in rows_of_times(len(names), most):
        terms = [(times, name) for times, name in zip(row, names) if times != 0]
        if len(terms) > 0 and terms[0][0] > 0:
            sums = sums_of_letters(row)
            kept.extend([("sum", list(terms), c) for c in range(-most, most + 1) if is_kept(steps, sums, c)])
    return kept


def sum_against(claim, terms, c):
    """Return the first filling that meets a claim, but not a sum, with its width, None if there is none."""
    check_claim(claim)
    if not is_atom(("sum", terms, 0)) or not all([name in names_free(claim) for _, name in terms]):
        raise InvalidClaim(terms)
    if not is_whole(c):
        raise InvalidNumber(c)
    return first_filling(without_met(named_claim(claim), named_atom(("sum", terms, c), [name for _, name in terms])))


def check_free(claim, name):
    """Refuse what is no claim, and what is no free name of it."""
    check_claim(claim)
    if name not in names_free(claim):
        raise InvalidName(name)


def check_bit(bit):
    """Refuse what is not the number 0 or 1."""
    if not is_bit(bit):
        raise InvalidNumber(bit)


def named_atom(atom, names):
    """Return the named table of an atom, names being all of its names, in order."""
    return names, atom_table(atom, names)[0]


def bit_widths(claim, atom, bit):
    """Return the widths at which an atom that tells a bit of a name is as this bit says where a claim is met."""
    told = named_atom(atom, [atom[-1]])
    met = named_claim(claim)
    return turned_widths(met_at(met_both(met, told) if bit == 0 else without_met(met, told)))


def living_steps(table):
    """Return for each stand of a table the list of the tuples of a letter and of the stand to which it leads.

    Letters that lead to where nothing is taken any more are left away.
    """
    lives = living(table)
    return [[(letter, behind) for letter, behind in enumerate(step) if lives[behind]] for step in table[1]]


def pairs_with(claim, unlike):
    """Return the pairs of free names whose bits are always equal, or always unlike, where a claim is met."""
    check_claim(claim)
    names, table = named_claim(claim)
    letters = sorted(set([letter for step in living_steps(table) for letter, _ in step]))
    pairs = []
    for first in range(len(names)):
        for last in range(first + 1, len(names)):
            if all([((letter >> first & 1) != (letter >> last & 1)) == unlike for letter in letters]):
                pairs.append((names[first], names[last]))
    return pairs


def rows_of_times(many, most):
    """Return the list, in order, of all lists of so many numbers that are at most so far from 0."""
    rows = [[]]
    for _ in range(many):
        rows = [row + [times] for row in rows for times in range(-most, most + 1)]
    return rows


def sums_of_letters(row):
    """Return for each letter what the numbers of a row come to, those of its bits that are 1."""
    sums = [0]
    for times in row:
        sums = sums + [told + times for told in sums]
    return sums


def is_kept(steps, sums, c):
    """Return whether a sum, of numbers c and those that letters come to, holds of all rows that living steps take."""
    keys = [(0, c)]
    met = {(0, c): True}
    while len(keys) > 0:
        stand, carry = keys.pop()
        for letter, behind in steps[stand]:
            told = carry + sums[letter]
            if told & 1 == 1:
                return False
            if (behind, told >> 1) not in met:
                met[(behind, told >> 1)] = True
                keys.append((behind, told >> 1))
    return True
