"""How the given letters of a claim choose the wanted ones, and how long two choices can go side by side.

The moves of a claim are for each stand of its table, and each given letter, the list of the
tuples of a whole letter, with the wanted ones in it, and of the stand to which it leads; those
from where nothing is taken any more are left away. A pair is a tuple of two stands to which the
same given letters lead, but not the same wanted ones. A step to a pair is a tuple of where it
comes from, and of the two whole letters; the first step comes from a stand, the others from pairs.
"""

from howeverwide.joins import letter_at
from howeverwide.named import living, named_claim
from howeverwide.walks import first_row_where, stands_of


def read_claim(claim, wanted):
    """Return the tuple of the names of a claim, of the places of the given and of the wanted ones, and of its table."""
    names, table = named_claim(claim)
    given = [place for place, name in enumerate(names) if name not in wanted]
    return names, given, [names.index(name) for name in wanted], table


def moves_of(read):
    """Return the moves of a claim."""
    _, given, _, (many, steps, ends) = read
    lives = living((many, steps, ends))
    moves = []
    for step in steps:
        by_given = [[] for _ in range(1 << len(given))]
        for letter, behind in enumerate(step):
            if lives[behind]:
                by_given[letter_at(given, letter)].append((letter, behind))
        moves.append(by_given)
    return moves


def first_untold(read):
    """Return the first row of given letters for which not just one choice of wanted ones is taken.

    It comes in a tuple with how many are taken, 0, or 2 for more; None if there is no such row.
    """
    moves, ends = moves_of(read), read[3][2]

    def behind(key):
        return [key_behind(moves, key, given) for given in range(len(moves[0]))]

    def is_untold(key):
        return taken_at(ends, key) != 1

    row = first_row_where((1, 0), behind, is_untold)
    if row is None:
        return None
    key = (1, 0)
    for letter in row:
        key = key_behind(moves, key, letter)
    return row, taken_at(ends, key)


def key_behind(moves, key, letter):
    """Return the key behind a key and a given letter.

    A key tells the lot of the stands that are reached, and the lot of those reached more than once.
    """
    once, often = key
    reached, again = 0, 0
    for stand in stands_of(once):
        for _, behind in moves[stand][letter]:
            if reached >> behind & 1 == 1 or often >> stand & 1 == 1:
                again |= 1 << behind
            reached |= 1 << behind
    return reached, again


def taken_at(ends, key):
    """Return how many choices are taken at a key, 2 for more than one."""
    once, often = key
    many = sum([1 + (often >> stand & 1) for stand in stands_of(once) if ends[stand]])
    return min(many, 2)


def first_steps(moves):
    """Return the dict of all pairs to which one given letter leads from one stand, with a step to each."""
    steps = {}
    for stand, by_given in enumerate(moves):
        for found in by_given:
            for letter, behind in found:
                for other, other_behind in found:
                    if letter < other:
                        steps.setdefault((behind, other_behind), (stand, letter, other))
    return steps


def steps_behind(moves, pair):
    """Return the dict of all pairs behind a pair, with a step from it to each."""
    steps = {}
    for found, others in zip(moves[pair[0]], moves[pair[1]]):
        for letter, behind in found:
            for other, other_behind in others:
                steps.setdefault((behind, other_behind), (pair, letter, other))
    return steps


def all_pairs(moves):
    """Return the dict of all pairs that are reached, each with the dict of the steps behind it."""
    waiting = list(first_steps(moves))
    pairs = {}
    while len(waiting) > 0:
        pair = waiting.pop()
        if pair not in pairs:
            pairs[pair] = steps_behind(moves, pair)
            waiting.extend(list(pairs[pair]))
    return pairs


def lasting_pairs(pairs):
    """Return the tuple of how many letters it takes until no pair is left, and of the list of those that never end.

    At each look the pairs that lead to no pair any more are taken away.
    """
    ahead = {pair: [] for pair in pairs}
    for pair, steps in pairs.items():
        for behind in steps:
            ahead[behind].append(pair)
    left = {pair: len(steps) for pair, steps in pairs.items()}
    ending = [pair for pair, many in left.items() if many == 0]
    looks = 0
    while len(ending) > 0:
        looks += 1
        later = []
        for pair in ending:
            for earlier in ahead[pair]:
                left[earlier] -= 1
                if left[earlier] == 0:
                    later.append(earlier)
        ending = later
    return looks, [pair for pair, many in left.items() if many > 0]


def parted_for(moves, most):
    """Return the list of the steps along which two choices go side by side for so many letters more, None if none do.

    The first step is that in which they part.
    """
    levels = [first_steps(moves)]
    while len(levels) <= most and len(levels[-1]) > 0:
        level = {}
        for pair in levels[-1]:
            for behind, step in steps_behind(moves, pair).items():
                level.setdefault(behind, step)
        levels.append(level)
    if len(levels[-1]) == 0:
        return None
    pair = list(levels[-1])[0]
    steps = []
    for level in reversed(levels):
        steps.append((level[pair], pair))
        pair = level[pair][0]
    return steps[::-1]
