"""What the labels of a paper of each kind of piece tell, and how they follow each other.

A label is reckoned with as its key: of an atom the label itself, of a "not" the stand of its
part, of an "and", an "or" and an "iff" the tuple of the stands of its parts, of a "some" the
number that tells the lot of stands of its part. read is the list of the tuples of the names
and of the table of each part.
"""

from howeverwide.atoms import bits_of_letter
from howeverwide.basics import ascends, is_count_to
from howeverwide.joins import MOST_STANDS, end_mask, letter_at, lots_of_letters, masks_of_both
from howeverwide.labels import has_shape, is_good_label, label_after, label_of_nothing
from howeverwide.pieces import LINKS
from howeverwide.walks import explored, mask_of, stands_of
from howeverwide.words import first_word

TOGETHER = ("and", "or", "iff")


def first_key(piece):
    """Return the key of the label of no letters."""
    if piece[0] not in LINKS:
        return label_of_nothing(piece)
    if piece[0] in TOGETHER:
        return (0,) * (len(piece) - 1)
    return 1 if piece[0] == "some" else 0


def label_of_key(piece, key):
    """Return the label that has a key."""
    if piece[0] not in LINKS:
        return key
    if piece[0] == "not":
        return ("stand", key)
    if piece[0] == "some":
        return lot_label(stands_of(key))
    return ("stands", *key)


def lot_label(stands):
    """Return the label of the lot of stands of an ascending list."""
    return ("lot", *stands)


def key_of_label(piece, read, label):
    """Return the key of any value, None if it is no label of this kind."""
    if piece[0] not in LINKS:
        return label if has_shape(piece, label) else None
    if piece[0] == "some":
        return key_of_lot(read[0][1], label)
    word = "stand" if piece[0] == "not" else "stands"
    if first_word(label) != word or len(label) != len(read) + 1:
        return None
    if not all([is_stand(table, stand) for (_, table), stand in zip(read, label[1:])]):
        return None
    return label[1] if piece[0] == "not" else label[1:]


def key_of_lot(table, label):
    """Return what tells the lot of stands of a table that any value, as a label, tells; None if it tells none."""
    if first_word(label) != "lot" or len(label) < 2:
        return None
    if not all([is_stand(table, stand) for stand in label[1:]]) or not ascends(label[1:]):
        return None
    return mask_of(label[1:])


def is_stand(table, value):
    """Return whether any value is a stand of a table."""
    return is_count_to(value, len(table[1]) - 1)


def good_keys(piece, read, keys):
    """Return for each of some keys whether its label is good."""
    if piece[0] not in LINKS:
        return [is_good_label(piece, key) for key in keys]
    ends = [table[2] for _, table in read]
    if piece[0] == "not":
        return [not ends[0][key] for key in keys]
    if piece[0] == "some":
        good = end_mask(ends[0])
        return [key & good > 0 for key in keys]
    return [is_good_together(piece[0], [end[stand] for end, stand in zip(ends, key)]) for key in keys]


def is_good_together(word, ends):
    """Return whether stands, each of which is an end or not, are good together."""
    if word == "and":
        return all(ends)
    if word == "or":
        return any(ends)
    return ends[0] == ends[1]


def keys_behind(piece, names, read):
    """Return a function that gets a key and returns the list of the keys behind it, one for each letter of names."""
    if piece[0] not in LINKS:
        return labels_behind(piece, names)
    if piece[0] == "some":
        return lots_behind(piece[1], names, read[0])
    columns = [read_steps(names, part_names, table) for part_names, table in read]
    if piece[0] == "not":
        return stands_behind(columns[0])
    return rows_behind(columns, 1 << len(names))


def labels_behind(atom, names):
    """Return such a function for an atom."""
    letters = [bits_of_letter(names, letter) for letter in range(1 << len(names))]

    def behind(label):
        return [label_after(atom, label, bits) for bits in letters]

    return behind


def stands_behind(steps):
    """Return such a function for a "not"; the steps are those of its part, by the letters of the paper."""

    def behind(stand):
        return steps[stand]

    return behind


def rows_behind(columns, letters):
    """Return such a function for parts together, each with its steps, by so many letters of the paper."""

    def behind(key):
        if len(key) == 0:
            return [()] * letters
        rows = [steps[stand] for steps, stand in zip(columns, key)]
        return list(zip(*rows))

    return behind


def lots_behind(bound, names, part):
    """Return such a function for the "some" of a bound name; part has the names and the table of its part."""
    letters = letters_read(names, part[0], bound)
    # Where the part has no such name, its bit is none, and both letters are one.
    bit = mask_of([number for number, name in enumerate(part[0]) if name == bound])
    masks = masks_of_both(part[1][1], letters, bit)

    def behind(key):
        return lots_of_letters(key, masks)

    return behind


def letters_read(names, part_names, bound):
    """Return for each letter of names the letter that it is for those of a part; the bit of a bound name is 0."""
    # The bit behind those of all names is 0 in each letter: the bound name is read there.
    places = [len(names) if name == bound else names.index(name) for name in part_names]
    return [letter_at(places, letter) for letter in range(1 << len(names))]


def read_steps(names, part_names, table):
    """Return the steps of a part's table by the letters of the names of the paper."""
    letters = letters_read(names, part_names, None)
    return [[step[letter] for letter in letters] for step in table[1]]


def made_table(piece, names, read):
    """Return the tuple of the table of a piece on names, and of the keys of its stands.

    The stands are numbered as they are first reached; the table is not made least.
    """
    keys, steps = explored(first_key(piece), keys_behind(piece, names, read), MOST_STANDS)
    return (len(names), steps, good_keys(piece, read, keys)), keys
