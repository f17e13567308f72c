"""Going through stands, and making tables least; what is handed is known to be right."""

from howeverwide.errors import TooMany


def explored(first, behind, most):
    """Return the list of all keys that are reached from the first one, and the list of their steps.

    behind(key) returns the list of the keys behind a key, one for each letter. The keys are
    numbered in the order of the first rows that reach them, shorter rows first; the steps
    have these numbers. No more keys than most are allowed, with None any number.
    """
    keys = [first]
    numbers = {first: 0}
    steps = []
    while len(steps) < len(keys):
        key = keys[len(steps)]
        step = []
        for found in behind(key):
            if found not in numbers:
                if len(keys) == most:
                    raise TooMany(most + 1)
                numbers[found] = len(keys)
                keys.append(found)
            step.append(numbers[found])
        steps.append(step)
    return keys, steps


def stands_before(steps):
    """Return a list for each letter, but one alone for letters that always lead alike.

    It has the list of the stands from which the letter leads to a stand, for each stand.
    """
    befores = []
    columns = {}
    for column in zip(*steps):
        if column not in columns:
            columns[column] = True
            before = [[] for _ in steps]
            for stand, behind in enumerate(column):
                before[behind].append(stand)
            befores.append(before)
    return befores


def stands_ahead(steps):
    """Return for each stand the list of those from which a letter leads to it, each as often as some does."""
    ahead = [[] for _ in steps]
    for stand, step in enumerate(steps):
        for behind in step:
            ahead[behind].append(stand)
    return ahead


def lot_numbers(steps, ends):
    """Return for each stand the number of its lot of alike stands.

    Lots are split as long as some letter leads from one stand of a lot into a waiting lot and
    from another one not; of the two halves of a lot that waits no more, the lesser one is
    enough to wait again. So no stand waits often, and long chains of stands are done quickly.
    """
    lots = [[stand for stand, end in enumerate(ends) if end], [stand for stand, end in enumerate(ends) if not end]]
    numbers = [0 if end else 1 for end in ends]
    befores = stands_before(steps)
    waiting = [0, 1]
    waits = [True, True]
    while len(waiting) > 0:
        number = waiting.pop()
        waits[number] = False
        splitter = list(lots[number])
        for before in befores:
            parts = parts_ahead(splitter, before, numbers)
            for lot, part in parts.items():
                if len(part) < len(lots[lot]):
                    waits.append(False)
                    chosen = split_off(lot, part, lots, numbers, waits)
                    waiting.append(chosen)
                    waits[chosen] = True
    return numbers


def parts_ahead(splitter, before, numbers):
    """Return for each lot the list of its stands that lead into the splitter, where there are some."""
    parts = {}
    for stand in splitter:
        for earlier in before[stand]:
            parts.setdefault(numbers[earlier], []).append(earlier)
    return parts


def split_off(lot, part, lots, numbers, waits):
    """Make a new lot of some stands of a lot; return which one of both is to wait."""
    new = len(lots)
    for stand in part:
        numbers[stand] = new
    lots[lot] = [stand for stand in lots[lot] if numbers[stand] == lot]
    lots.append(part)
    if not waits[lot] and len(lots[lot]) < len(part):
        return lot
    return new


def merged(many, steps, ends):
    """Return the least table of one all stands of which are reached, and numbered as they are first."""
    return merged_lots(many, steps, ends)[0]


def merged_lots(many, steps, ends):
    """Return the least table of such a table, and for each of its stands the list of those that it stands for."""
    lots = lot_numbers(steps, ends)
    numbers = {}
    members = []
    for stand, lot in enumerate(lots):
        if lot not in numbers:
            numbers[lot] = len(members)
            members.append([])
        members[numbers[lot]].append(stand)
    merged_steps = [[numbers[lots[behind]] for behind in steps[stands[0]]] for stands in members]
    return (many, merged_steps, [ends[stands[0]] for stands in members]), members


def least_table(table):
    """Return the least table of a table."""
    return least_lots(table)[0]


def least_lots(table):
    """Return the least table of a table, and for each of its stands the ascending list of those that it stands for."""
    many, steps, ends = table

    def behind(stand):
        return steps[stand]

    stands, renumbered = explored(0, behind, len(steps))
    least, members = merged_lots(many, renumbered, [ends[stand] for stand in stands])
    return least, [sorted([stands[number] for number in numbers]) for numbers in members]


def first_rows(table):
    """Return the list of the tuples of all reached stands and their first rows, as these stand in order."""
    rows = [(0, [])]
    met = {0: True}
    at = 0
    while at < len(rows):
        stand, row = rows[at]
        for letter, behind in enumerate(table[1][stand]):
            if behind not in met:
                met[behind] = True
                rows.append((behind, row + [letter]))
        at += 1
    return rows


def first_row_where(first, behind, is_wanted):
    """Return the first row, shorter ones first, to a key that is wanted, None if none is reached.

    behind(key) returns the list of the keys behind a key, one for each letter. No more keys
    are looked at than stand ahead of the wanted one.
    """
    keys = [(first, [])]
    met = {first: True}
    at = 0
    while at < len(keys):
        key, row = keys[at]
        if is_wanted(key):
            return row
        for letter, found in enumerate(behind(key)):
            if found not in met:
                met[found] = True
                keys.append((found, row + [letter]))
        at += 1
    return None


def row_leading_to(steps, target):
    """Return the first row to a stand, all stands being reached and numbered in the order of their first rows."""
    ahead = {}
    for stand, step in enumerate(steps):
        for letter, behind in enumerate(step):
            if behind not in ahead:
                ahead[behind] = (stand, letter)
    row = []
    while target > 0:
        target, letter = ahead[target]
        row.append(letter)
    return row[::-1]


def mask_of(stands):
    """Return the number that tells a lot of stands: its bit is 1 at the number of each of them."""
    mask = 0
    for stand in stands:
        mask |= 1 << stand
    return mask


def stands_of(mask):
    """Return the ascending list of the stands of the lot that a number tells."""
    return [stand for stand, figure in enumerate(f"{mask:b}"[::-1]) if figure == "1"]


def masks_behind(steps):
    """Return for each stand the number that tells the lot of all stands to which its letters lead."""
    return [mask_of(step) for step in steps]


def lot_behind(lot, behind):
    """Return what tells the lot of all stands behind those of a lot; behind has it for each stand."""
    found = 0
    for stand in stands_of(lot):
        found |= behind[stand]
    return found


def lots_in_turn(steps, most):
    """Return the list of what tells the lots behind rows of 0, 1, .. letters, and the number of that which comes back.

    More lots than most are refused.
    """
    behind = masks_behind(steps)
    lots = [1]
    numbers = {1: 0}
    while True:
        lot = lot_behind(lots[-1], behind)
        if lot in numbers:
            return lots, numbers[lot]
        if len(lots) == most:
            raise TooMany(most + 1)
        numbers[lot] = len(lots)
        lots.append(lot)
