"""Plain reckonings of pieces and papers, held against the package: each follows the document's words one by one."""

import itertools

from tests.support import plain_bits, plain_letters, plain_signed, plainly_takes

LINKED = ("not", "and", "or", "iff")


def inner_pieces(piece):
    if piece[0] == "some":
        return [piece[2]]
    return list(piece[1:]) if piece[0] in LINKED else []


def plainly_free(piece):
    """Return the set of the free names of a piece."""
    word = piece[0]
    if word == "some":
        return plainly_free(piece[2]) - {piece[1]}
    if word in LINKED:
        return set().union(*[plainly_free(part) for part in piece[1:]])
    if word == "sum":
        return {name for _, name in piece[1]}
    if word == "told":
        return set(piece[2])
    names = {"bits": piece[2:], "off": piece[1:], "down": piece[2:], "below": piece[1:], "under": piece[1:],
             "bit": piece[2:], "top": piece[1:]}
    return set(names[word])


def atom_holds(width, atom, words):
    """Tell whether an atom holds as [20] says, bit by bit where it speaks of bits."""
    word = atom[0]
    if word == "sum":
        return (atom[2] + sum(k * words[name] for k, name in atom[1])) % 2 ** width == 0
    if word == "told":
        return plainly_takes(atom[1], plain_letters(width, [words[name] for name in atom[2]]))
    names = {"bits": 2, "off": 1, "down": 2, "below": 1, "under": 1, "bit": 2, "top": 1}[word]
    values = [words[name] for name in atom[names:]]
    bits = [plain_bits(width, one) for one in values]
    if word == "bits":
        rules = {"both": lambda a, b: a and b, "either": lambda a, b: a or b, "unlike": lambda a, b: a != b}
        return all(bool(told) == bool(rules[atom[1]](a, b)) for told, a, b in zip(*bits))
    if word == "off":
        return all(a != b for a, b in zip(*bits))
    if word == "down":
        return values[0] == values[1] // 2 ** atom[1]
    if word == "below":
        return values[0] < values[1]
    if word == "under":
        return plain_signed(width, values[0]) < plain_signed(width, values[1])
    if word == "bit":
        return atom[1] < width and bits[0][atom[1]] == 1
    return width > 0 and bits[0][-1] == 1


def plain_piece_holds(width, piece, words):
    """Tell whether a piece holds, a "some" by going through all words."""
    word = piece[0]
    if word == "some":
        return any(plain_piece_holds(width, piece[2], {**words, piece[1]: one}) for one in range(2 ** width))
    if word not in LINKED:
        return atom_holds(width, piece, words)
    told = [plain_piece_holds(width, part, words) for part in piece[1:]]
    return {"not": lambda: not told[0], "and": lambda: all(told), "or": lambda: any(told),
            "iff": lambda: told[0] == told[1]}[word]()


class Mark:
    """Stands for a name that is not made yet."""


def marked_piece(claim):
    """Take a claim apart as [27] says, with a mark for each name that is made."""
    word, *parts = claim
    if word == "then":
        return ("or", ("not", marked_piece(parts[0])), marked_piece(parts[1]))
    if word == "all":
        return ("not", ("some", parts[0], ("not", marked_piece(parts[1]))))
    if word == "some":
        return ("some", parts[0], marked_piece(parts[1]))
    if word in LINKED:
        return (word, *[marked_piece(part) for part in parts])
    if word == "told":
        return claim
    if word == "same":
        return marked_sum(("minus", *parts))
    ahead = parts[:1] if word == "bit" else []
    marks = [part if isinstance(part, str) else Mark() for part in parts[len(ahead):]]
    return around(parts[len(ahead):], marks, (word, *ahead, *marks))


def around(expressions, marks, inner):
    """Put a "some" for each mark around a piece, that of the first expression outermost."""
    for expression, mark in reversed(list(zip(expressions, marks))):
        if isinstance(mark, Mark):
            inner = ("some", mark, ("and", marked_telling(mark, expression), inner))
    return inner


def marked_telling(mark, expression):
    word = expression[0] if isinstance(expression, tuple) else ""
    if word in ("both", "either", "unlike", "down"):
        parts = [part for part in expression[1:] if word != "down"] or [expression[2]]
        marks = [part if isinstance(part, str) else Mark() for part in parts]
        inner = ("down", expression[1], mark, *marks) if word == "down" else ("bits", word, mark, *marks)
        return around(parts, marks, inner)
    return marked_sum(("minus", expression, mark))


def marked_sum(expression):
    parts = []
    c = plainly_gather(expression, 1, parts)
    kept = [part for part in parts if part[1] != 0]
    plain = [part for part in kept if isinstance(part[0], (str, Mark))]
    others = [part for part in kept if not isinstance(part[0], (str, Mark))]
    marks = [Mark() for _ in others]
    terms = [(k, part) for part, k in plain] + [(k, mark) for (_, k), mark in zip(others, marks)]
    return around([part for part, _ in others], marks, ("sum", terms, c))


def plainly_gather(expression, k, parts):
    """Add k times an expression to a list of lists of a part and its number; return what comes without a part."""
    word = expression[0] if isinstance(expression, tuple) else ""
    if isinstance(expression, int):
        return k * expression
    if word in ("plus", "minus"):
        first = plainly_gather(expression[1], k, parts)
        return first + plainly_gather(expression[2], {"plus": k, "minus": -k}[word], parts)
    if word == "times":
        return plainly_gather(expression[2], k * expression[1], parts)
    if word == "up":
        return plainly_gather(expression[2], k * 2 ** expression[1], parts)
    if word == "turned":
        return plainly_gather(expression[1], -k, parts) - k
    for part in parts:
        if part[0] == expression:
            part[1] += k
            return 0
    parts.append([expression, k])
    return 0


def marks_in(piece):
    """Return the marks of the "some"s of a piece, as they come from the left."""
    if piece[0] == "some":
        return [piece[1]] * isinstance(piece[1], Mark) + marks_in(piece[2])
    return [mark for part in inner_pieces(piece) for mark in marks_in(part)]


def named_piece(value, names):
    """Return a piece with names for its marks, its sums in order of all names."""
    if isinstance(value, Mark):
        return names[id(value)]
    if isinstance(value, list):
        return [named_piece(item, names) for item in value]
    if not isinstance(value, tuple):
        return value
    made = tuple(named_piece(item, names) for item in value)
    if made[:1] == ("sum",):
        return ("sum", sorted(made[1], key=lambda term: term[1]), made[2])
    return made


def strings_in(value):
    if isinstance(value, str):
        return {value}
    return set().union(*[strings_in(item) for item in value]) if isinstance(value, (list, tuple)) else set()


def plain_piece_of(claim):
    """Return the piece of a claim as [27] says."""
    piece = marked_piece(claim)
    fresh = (f"t{number}" for number in itertools.count(1))
    free = (name for name in fresh if name not in strings_in(claim))
    return named_piece(piece, {id(mark): name for mark, name in zip(marks_in(piece), free)})


def plain_carry(atom, label, bits):
    whole = label[1] + sum(k * bits[name] for k, name in atom[1])
    return ("carry", whole // 2) if whole % 2 == 0 else ("off",)


def plain_label_behind(atom, label, bits):
    """Return the label behind a label of an atom, by the words of [21] and [22]."""
    word = atom[0]
    if label == ("off",):
        return label
    if word == "sum":
        return plain_carry(atom, label, bits)
    if word in ("bits", "off"):
        return ("good",) if atom_holds(1, atom, bits) else ("off",)
    if word == "down":
        waiting = list(label[1]) + [bits[atom[2]]]
        if len(waiting) <= atom[1]:
            return ("wait", tuple(waiting))
        return ("wait", tuple(waiting[1:])) if waiting[0] == bits[atom[3]] else ("off",)
    if word == "told":
        letter = sum(2 ** number * bits[name] for number, name in enumerate(atom[2]))
        return ("stand", atom[1][1][label[1]][letter])
    if word == "bit":
        if label[0] == "at" and label[1] < atom[1]:
            return ("at", label[1] + 1)
        return label if label[0] != "at" else (("one",) if bits[atom[2]] else ("nought",))
    if word == "top":
        return ("one",) if bits[atom[1]] else ("nought",)
    first, last = bits[atom[1]], bits[atom[2]]
    if word == "below":
        return label if first == last else (("less",) if first < last else ("not",))
    return (label[0], label[0]) if first == last else (first < last, first > last)


def has_label_shape(atom, label):
    """Tell whether any value has the shape of an atom's labels."""
    if not isinstance(label, tuple):
        return False
    word = atom[0]
    whole = [isinstance(item, int) and not isinstance(item, bool) for item in label]
    if word == "under":
        return len(label) == 2 and all(isinstance(item, bool) for item in label)
    single = {"sum": ["off"], "bits": ["good", "off"], "off": ["good", "off"], "down": ["off"], "below": ["less", "not"],
              "bit": ["one", "nought"], "top": ["one", "nought"], "told": []}
    if len(label) == 1:
        return isinstance(label[0], str) and label[0] in single[word]
    if len(label) != 2 or not isinstance(label[0], str):
        return False
    if word == "sum":
        return label[0] == "carry" and whole[1]
    if word == "bit":
        return label[0] == "at" and whole[1] and 0 <= label[1] <= atom[1]
    if word == "told":
        return label[0] == "stand" and whole[1] and 0 <= label[1] < len(atom[1][1])
    if word == "down" and label[0] == "wait" and isinstance(label[1], tuple) and len(label[1]) <= atom[1]:
        return all(isinstance(bit, int) and not isinstance(bit, bool) and bit in (0, 1) for bit in label[1])
    return False


def is_good_shape(atom, label):
    if atom[0] == "told":
        return atom[1][2][label[1]]
    if atom[0] == "under":
        return label[1]
    if atom[0] == "down":
        return label[0] == "wait" and not any(label[1])
    return label[0] in ("carry", "good", "less", "one")


FIRST = {"bits": ("good",), "off": ("good",), "down": ("wait", ()), "below": ("not",), "under": (False, False),
         "bit": ("at", 0), "top": ("nought",), "told": ("stand", 0)}


def letter_bits(names, letter):
    return {name: letter // 2 ** number % 2 for number, name in enumerate(names)}


def stands_on(paper, stand, bits):
    """Return the stand of a paper behind a stand and the bits of its names."""
    letter = sum(2 ** number * bits[name] for number, name in enumerate(paper[1]))
    return paper[2][1][stand][letter]


def are_stands_of(paper, values):
    return all(isinstance(one, int) and not isinstance(one, bool) and 0 <= one < len(paper[2][1]) for one in values)


def is_lot_label(paper, label):
    if not isinstance(label, tuple) or len(label) < 2 or not isinstance(label[0], str) or label[0] != "lot":
        return False
    return are_stands_of(paper, label[1:]) and all(a < b for a, b in zip(label[1:], label[2:]))


class PlainPaper:
    """Reads one paper, whose form, names and parts are right, by the words of [49] for its kind."""

    def __init__(self, paper):
        self.paper = paper
        self.piece, self.names, self.table, self.labels, self.parts = paper
        self.least = len(self.parts) == 1 and self.parts[0][0] == self.piece
        self.kind = "least" if self.least else self.piece[0]

    def has_kind(self, label):
        if self.kind in ("least", "some"):
            return is_lot_label(self.parts[0], label)
        if self.kind in LINKED:
            word = "stand" if self.kind == "not" else "stands"
            if not isinstance(label, tuple) or len(label) != len(self.parts) + 1 or not isinstance(label[0], str):
                return False
            return label[0] == word and all(are_stands_of(part, [one]) for part, one in zip(self.parts, label[1:]))
        return has_label_shape(self.piece, label)

    def is_first(self, label):
        if self.kind == "least":
            return 0 in label
        if self.kind == "some":
            return label == ("lot", 0)
        if self.kind == "not":
            return label == ("stand", 0)
        if self.kind in LINKED:
            return label == ("stands", *[0 for _ in self.parts])
        return label == (("carry", self.piece[2]) if self.kind == "sum" else FIRST[self.kind])

    def comes(self, label, letter, behind):
        bits = letter_bits(self.names, letter)
        if self.kind == "least":
            return {stands_on(self.parts[0], one, bits) for one in label[1:]} <= set(behind[1:])
        if self.kind == "some":
            found = {stands_on(self.parts[0], one, {**bits, self.piece[1]: bit}) for one in label[1:] for bit in (0, 1)}
            return behind == ("lot", *sorted(found))
        if self.kind in LINKED:
            found = [stands_on(part, one, bits) for part, one in zip(self.parts, label[1:])]
            return behind == (label[0], *found)
        return behind == plain_label_behind(self.piece, label, bits)

    def is_good(self, label, end):
        if self.kind not in ("least", "some", *LINKED):
            return end == is_good_shape(self.piece, label)
        if self.kind in ("least", "some"):
            ends = [self.parts[0][2][2][one] for one in label[1:]]
            return all(one == end for one in ends) if self.kind == "least" else end == any(ends)
        ends = [part[2][2][one] for part, one in zip(self.parts, label[1:])]
        return end == {"not": lambda: not ends[0], "and": lambda: all(ends), "or": lambda: any(ends),
                       "iff": lambda: ends[0] == ends[1]}[self.kind]()

    def is_right(self):
        if not all(self.has_kind(label) for label in self.labels) or not self.is_first(self.labels[0]):
            return False
        _, steps, ends = self.table
        if not all(self.is_good(label, end) for label, end in zip(self.labels, ends)):
            return False
        return all(self.comes(label, letter, self.labels[behind]) for label, step in zip(self.labels, steps)
                   for letter, behind in enumerate(step))


def is_plainly_right(paper):
    """Tell whether what has the form of a paper, with a piece, a table, and lists where they should be, is right."""
    piece, names, table, labels, parts = paper
    if names != sorted(set(names)) or len(names) > 6 or not plainly_free(piece) <= set(names):
        return False
    if table[0] != len(names) or len(labels) != len(table[1]) or not all(is_plainly_right(part) for part in parts):
        return False
    if [part[0] for part in parts] == [piece]:
        if parts[0][1] != names:
            return False
    else:
        bound = {piece[1]} if piece[0] == "some" else set()
        if [part[0] for part in parts] != inner_pieces(piece):
            return False
        if not all(set(part[1]) <= set(names) | bound for part in parts):
            return False
    return PlainPaper(paper).is_right()
