"""Atoms, their labels and their tables."""

from howeverwide.basics import MOST_NAMES, ascends, check_width, check_width_to, is_count_to, is_whole
from howeverwide.carries import all_carries, bounds_of, carries_at
from howeverwide.errors import InvalidClaim, InvalidNames, InvalidNumber
from howeverwide.labels import has_shape, holds_of_words, is_good_label, label_after, label_of_nothing, label_of_words
from howeverwide.walks import explored
from howeverwide.words import are_names, check_filling, first_word, has_parts, is_name, is_told

MOST_CARRY_WIDTH = 300

# What stands behind the first word of each atom, in order; sums and "told" are not among them.
ATOM_PARTS = {
    "bits": ("way", "name", "name", "name"),
    "off": ("name", "name"),
    "down": ("count", "name", "name"),
    "below": ("name", "name"),
    "under": ("name", "name"),
    "bit": ("count", "name"),
    "top": ("name",),
}


def is_atom(value):
    """Return whether a value is an atom."""
    word = first_word(value)
    if word == "sum":
        return is_sum(value)
    if word == "told":
        return is_told(value)
    return has_parts(ATOM_PARTS.get(word), value)


def is_sum(value):
    """Return whether a value that begins with "sum" is an atom."""
    if len(value) != 3 or not is_whole(value[2]) or not isinstance(value[1], list):
        return False
    if not all([is_term(term) for term in value[1]]):
        return False
    return ascends([name for _, name in value[1]])


def is_term(value):
    """Return whether a value is the tuple of a number that is not 0 and a name."""
    if not isinstance(value, tuple) or len(value) != 2:
        return False
    return is_whole(value[0]) and value[0] != 0 and is_name(value[1])


def check_atom(atom):
    """Refuse what is no atom."""
    if not is_atom(atom):
        raise InvalidClaim(atom)


def check_sum(atom):
    """Refuse what is no sum."""
    if first_word(atom) != "sum" or not is_atom(atom):
        raise InvalidClaim(atom)


def check_filled(atom, width, filling):
    """Refuse what is no atom, no width, and no filling of just the names of the atom at the width."""
    check_atom(atom)
    check_width(width)
    check_filling(width, names_of_atom(atom), filling)


def check_names_for(atom, names):
    """Refuse what is no list of at most 6 names, in order, each once, with all names of an atom."""
    if not are_names(names) or len(names) > MOST_NAMES:
        raise InvalidNames(names)
    if not all([name in names for name in names_of_atom(atom)]):
        raise InvalidNames(names)


def names_in(atom):
    """Return the names of an atom, in order, each once."""
    check_atom(atom)
    return names_of_atom(atom)


def names_of_atom(atom):
    """Return the names of what is known to be an atom."""
    if atom[0] == "sum":
        return [name for _, name in atom[1]]
    if atom[0] == "told":
        return sorted(atom[2])
    kinds = ATOM_PARTS[atom[0]]
    return sorted(set([part for kind, part in zip(kinds, atom[1:]) if kind == "name"]))


def holds_plainly(atom, width, filling):
    """Return whether an atom holds, reckoned on the words of a filling."""
    check_filled(atom, width, filling)
    return holds_of_words(atom, width, dict(filling))


def label_of(atom, width, filling):
    """Return the label of all bits of the words of a filling."""
    check_filled(atom, width, filling)
    return label_of_words(atom, width, dict(filling))


def first_label(atom):
    """Return the label of no bits."""
    check_atom(atom)
    return label_of_nothing(atom)


def label_behind(atom, names, label, letter):
    """Return the label behind a label and a letter of names, None if the label has no such shape."""
    check_atom(atom)
    check_names_for(atom, names)
    if not is_count_to(letter, (1 << len(names)) - 1):
        raise InvalidNumber(letter)
    if not has_shape(atom, label):
        return None
    return label_after(atom, label, bits_of_letter(names, letter))


def bits_of_letter(names, letter):
    """Return a dict of the bit that each name has in a letter."""
    return {name: (letter >> number) & 1 for number, name in enumerate(names)}


def is_good(atom, label):
    """Return whether a value has the shape of a label of an atom at which the atom holds."""
    check_atom(atom)
    return has_shape(atom, label) and is_good_label(atom, label)


def atom_table(atom, names):
    """Return the tuple of the table of an atom on some names, and of the list of its labels."""
    check_atom(atom)
    check_names_for(atom, names)
    letters = [bits_of_letter(names, letter) for letter in range(1 << len(names))]

    def behind(label):
        return [label_after(atom, label, bits) for bits in letters]

    labels, steps = explored(label_of_nothing(atom), behind, None)
    return ((len(names), steps, [is_good_label(atom, label) for label in labels]), labels)


def most_stands(atom):
    """Return a bound for how many labels of an atom are reached."""
    check_atom(atom)
    if atom[0] == "sum":
        return most_carries(atom[1], atom[2]) + 1
    if atom[0] == "down":
        return 1 << (atom[1] + 1)
    if atom[0] == "under":
        return 4
    if atom[0] == "bit":
        return atom[1] + 3
    if atom[0] == "told":
        return len(atom[1][1])
    return 2


def most_carries(terms, c):
    """Return how many numbers there are between the bounds of the carries of a sum."""
    above = sum([k for k, _ in terms if k > 0])
    below = sum([k for k, _ in terms if k < 0])
    return max(c, above) - min(c, below) + 1


def carries_met(atom):
    """Return the ascending list of all carries of a sum that are reached at some width."""
    check_sum(atom)
    return all_carries(atom)


def carry_bounds(atom, width):
    """Return the tuple of the least and the greatest carry that is reached at a width, None if none is."""
    check_sum(atom)
    check_width_to(width, MOST_CARRY_WIDTH)
    least, marks = carries_at(atom, width)
    return bounds_of(least, marks)
