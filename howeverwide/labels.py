"""The labels of atoms: which there are, how they follow each other, and what they tell.

Each function gets what is known to be an atom. bits and words are dicts that have the bit,
or the word, of each name of the atom.
"""

from howeverwide.basics import is_bit, is_count_to, is_whole, letters_of, stand_after
from howeverwide.words import first_word

OFF = ("off",)
GOOD = ("good",)
LESS = ("less",)
NOT_LESS = ("not",)
ONE = ("one",)
NOUGHT = ("nought",)

# The words that are a label alone, for each first word of an atom that has such labels.
SINGLE_WORDS = {
    "sum": ("off",),
    "bits": ("good", "off"),
    "off": ("good", "off"),
    "down": ("off",),
    "below": ("less", "not"),
    "bit": ("one", "nought"),
    "top": ("one", "nought"),
}


def are_bits_good(atom, bits):
    """Return whether bits, or all bits of words at once, are as a "bits" says."""
    _, way, told, one, other = atom
    if way == "both":
        return bits[told] == (bits[one] & bits[other])
    if way == "either":
        return bits[told] == (bits[one] | bits[other])
    return bits[told] == (bits[one] ^ bits[other])


def label_of_nothing(atom):
    """Return the label of no bits."""
    word = atom[0]
    if word == "sum":
        return ("carry", atom[2])
    if word in ("bits", "off"):
        return GOOD
    if word == "down":
        return ("wait", ())
    if word == "below":
        return NOT_LESS
    if word == "under":
        return (False, False)
    if word == "bit":
        return ("at", 0)
    if word == "top":
        return NOUGHT
    return ("stand", 0)


def label_after(atom, label, bits):
    """Return the label behind a label of the atom and bits of its names."""
    word = atom[0]
    if label == OFF:
        return OFF
    if word == "sum":
        return carry_after(atom, label[1], bits)
    if word == "bits":
        return GOOD if are_bits_good(atom, bits) else OFF
    if word == "off":
        return GOOD if bits[atom[1]] != bits[atom[2]] else OFF
    if word == "down":
        return waiting_after(atom, label[1], bits)
    if word == "below":
        return less_after(bits[atom[1]], bits[atom[2]], label)
    if word == "under":
        return under_after(bits[atom[1]], bits[atom[2]], label)
    if word == "bit":
        return place_after(atom, label, bits)
    if word == "top":
        return one_label(bits[atom[1]])
    letter = sum([bits[name] << number for number, name in enumerate(atom[2])])
    return ("stand", atom[1][1][label[1]][letter])


def carry_after(atom, carry, bits):
    """Return the label of a sum behind a carry and bits."""
    whole = carry + sum([k * bits[name] for k, name in atom[1]])
    if whole % 2 == 1:
        return OFF
    return ("carry", whole // 2)


def waiting_after(atom, waiting, bits):
    """Return the label of a "down" behind waiting bits and bits."""
    _, most, low, high = atom
    waiting = waiting + (bits[low],)
    if len(waiting) <= most:
        return ("wait", waiting)
    if waiting[0] != bits[high]:
        return OFF
    return ("wait", waiting[1:])


def less_after(first, last, label):
    """Return the label of a "below" behind a label and the bits of its two words."""
    if first == last:
        return label
    return LESS if first < last else NOT_LESS


def under_after(first, last, label):
    """Return the label of an "under" behind a label and the bits of its two words."""
    if first == last:
        return (label[0], label[0])
    return (first < last, first > last)


def place_after(atom, label, bits):
    """Return the label of a "bit" behind a label and bits."""
    if label[0] != "at":
        return label
    if label[1] < atom[1]:
        return ("at", label[1] + 1)
    return one_label(bits[atom[2]])


def one_label(bit):
    """Return the label that tells a bit."""
    return ONE if bit == 1 else NOUGHT


def has_shape(atom, label):
    """Return whether any value has the shape of a label of the atom."""
    word = atom[0]
    if not isinstance(label, tuple):
        return False
    if word == "under":
        return len(label) == 2 and all([isinstance(told, bool) for told in label])
    kind = first_word(label)
    if len(label) == 1:
        return kind in SINGLE_WORDS.get(word, ())
    if len(label) != 2:
        return False
    if word == "sum":
        return kind == "carry" and is_whole(label[1])
    if word == "down":
        return kind == "wait" and are_waiting(label[1], atom[1])
    if word == "bit":
        return kind == "at" and is_count_to(label[1], atom[1])
    return word == "told" and kind == "stand" and is_count_to(label[1], len(atom[1][1]) - 1)


def are_waiting(value, most):
    """Return whether a value is a tuple of at most so many bits."""
    return isinstance(value, tuple) and len(value) <= most and all([is_bit(bit) for bit in value])


def is_good_label(atom, label):
    """Return whether the atom holds at what has the shape of its labels."""
    word = atom[0]
    if word == "sum":
        return label != OFF
    if word == "down":
        return label != OFF and sum(label[1]) == 0
    if word == "under":
        return label[1]
    if word == "told":
        return atom[1][2][label[1]]
    return label in (GOOD, LESS, ONE)


def label_of_words(atom, width, words):
    """Return the label of all bits, reckoned from the words as wholes."""
    word = atom[0]
    if word == "sum":
        return sum_label(atom, width, words)
    if word in ("bits", "off"):
        return GOOD if holds_of_words(atom, width, words) else OFF
    if word == "down":
        return down_label(atom, width, words)
    if word == "below":
        return LESS if holds_of_words(atom, width, words) else NOT_LESS
    if word == "under":
        return (words[atom[1]] < words[atom[2]], holds_of_words(atom, width, words))
    if word == "bit" and width <= atom[1]:
        return ("at", width)
    if word in ("bit", "top"):
        return ONE if holds_of_words(atom, width, words) else NOUGHT
    return ("stand", told_stand(atom, width, words))


def sum_label(atom, width, words):
    """Return the label of a sum, reckoned from the words."""
    whole = sum_of_words(atom, words)
    if whole % (1 << width) != 0:
        return OFF
    return ("carry", whole // (1 << width))


def sum_of_words(atom, words):
    """Return what the words of a sum, each times its number, and its last number come to."""
    return atom[2] + sum([k * words[name] for k, name in atom[1]])


def down_label(atom, width, words):
    """Return the label of a "down", reckoned from the words."""
    _, k, low, high = atom
    waiting = min(k, width)
    told = width - waiting
    if words[low] % (1 << told) != words[high] >> waiting:
        return OFF
    return ("wait", tuple([(words[low] >> place) & 1 for place in range(told, width)]))


def told_stand(atom, width, words):
    """Return the stand to which the words lead the table of a "told"."""
    return stand_after(atom[1], letters_of(width, [words[name] for name in atom[2]]))


def counted(width, word):
    """Return what a word counts if its top bit counts below 0."""
    if top_is_one(width, word):
        return word - (1 << width)
    return word


def top_is_one(width, word):
    """Return whether the top bit of a word is 1; at the width 0 none is."""
    return width > 0 and word >> (width - 1) == 1


def holds_of_words(atom, width, words):
    """Return whether the atom holds, reckoned on the words."""
    word = atom[0]
    if word == "sum":
        return sum_of_words(atom, words) % (1 << width) == 0
    if word == "bits":
        return are_bits_good(atom, words)
    if word == "off":
        return (words[atom[1]] ^ words[atom[2]]) == (1 << width) - 1
    if word == "down":
        return words[atom[2]] == words[atom[3]] >> min(atom[1], width)
    if word == "below":
        return words[atom[1]] < words[atom[2]]
    if word == "under":
        return counted(width, words[atom[1]]) < counted(width, words[atom[2]])
    if word == "bit":
        return atom[1] < width and (words[atom[2]] >> atom[1]) & 1 == 1
    if word == "top":
        return top_is_one(width, words[atom[1]])
    return atom[1][2][told_stand(atom, width, words)]
