"""How many fillings a table takes at each width, and the shortest rule that these numbers obey.

The numbers of the stands at a width tell how many rows of this length lead from each one to
an end.
"""

from howeverwide.basics import check_width_to, is_count_to, is_whole
from howeverwide.errors import InvalidNumber, TooMany
from howeverwide.fillings import counts_of_ends, rows_between
from howeverwide.tables import check_table
from howeverwide.walks import least_table, stands_ahead

MOST_COUNTED = 2000
MOST_FIGURED = 999999999999999999999999999999
MOST_BY = 1000000000
MOST_RULED = 30
MOST_ROUND_BY = 50
MOST_TURN = 5000


def how_many_met(table, width):
    """Return how many fillings of a width a table takes."""
    check_table(table)
    check_width_to(width, MOST_COUNTED)
    least = least_table(table)
    ahead = stands_ahead(least[1])
    # Half of the way is gone from the first stand, and half from the ends: so the numbers stay shorter.
    half = width // 2
    ups = [1] + [0] * (len(ahead) - 1)
    for _ in range(half):
        ups = numbers_through(ahead, ups)
    downs = counts_of_ends(least)
    for _ in range(width - half):
        downs = numbers_through(least[1], downs)
    return rows_between(ups, downs)


def how_many_by(table, width, by):
    """Return how many fillings of a width, perhaps far beyond all words, a table takes, by a number."""
    check_table(table)
    check_width_to(width, MOST_FIGURED)
    check_by(by, MOST_BY)
    check_few(table)
    least = least_table(table)
    numbers = counts_of_ends(least)
    matrix = [[step.count(stand) for stand in range(len(numbers))] for step in least[1]]
    while width > 0:
        # A matrix and its powers may be taken in any order: so the lowest bit of the width comes first.
        if width & 1 == 1:
            numbers = [rows_between(row, numbers) % by for row in matrix]
        columns = list(zip(*matrix))
        matrix = [[rows_between(row, column) % by for column in columns] for row in matrix]
        width >>= 1
    return numbers[0] % by


def count_rule(table):
    """Return the first numbers of fillings that a table takes, and the shortest rule of all numbers behind."""
    check_table(table)
    check_few(table)
    return shortest_rule(table)


def counts_part(one, other):
    """Return the least width at which two tables take unlike numbers of fillings, None if there is none."""
    check_table(one)
    check_table(other)
    check_few(one)
    check_few(other)
    many = len(one[1]) + len(other[1])
    for width, (first, last) in enumerate(zip(numbers_met(one, many), numbers_met(other, many))):
        if first != last:
            return width
    return None


def is_count_rule(table, value):
    """Return whether any value is a tuple of first numbers and of a rule that tell all numbers of fillings."""
    check_table(table)
    check_few(table)
    if not isinstance(value, tuple) or len(value) != 2 or not all([is_list_of_whole(part) for part in value]):
        return False
    first, rule = value
    # What the rule leaves, from its length on, obeys itself a rule as long as there are stands.
    numbers = numbers_met(table, len(rule) + len(table[1]))
    if first != numbers[:len(rule)]:
        return False
    return all([told_by(rule, numbers, width) == numbers[width] for width in range(len(rule), len(numbers))])


def counts_by(table, by):
    """Return the numbers of fillings by a number: those met once, and those of the round."""
    check_table(table)
    check_by(by, MOST_ROUND_BY)
    check_few(table)
    first, rule = shortest_rule(table)
    numbers = [number % by for number in first]
    at = {}
    # So many numbers in a row tell all that come behind: so the round begins where some of them come back.
    while tuple(numbers[len(at):]) not in at:
        if len(at) == MOST_TURN:
            raise TooMany(MOST_TURN + 1)
        at[tuple(numbers[len(at):])] = len(at)
        numbers.append(told_by(rule, numbers, len(numbers)) % by)
    back = at[tuple(numbers[len(at):])]
    return (numbers[:back], numbers[back:len(at)])


def check_by(by, most):
    """Refuse what is no number by which numbers of fillings can be taken."""
    if not is_count_to(by, most) or by < 2:
        raise InvalidNumber(by)


def check_few(table):
    """Refuse a table of more stands than those whose rules are told."""
    if len(table[1]) > MOST_RULED:
        raise TooMany(len(table[1]))


def is_list_of_whole(value):
    """Return whether a value is a list of whole numbers."""
    return isinstance(value, list) and all([is_whole(item) for item in value])


def numbers_through(lists, numbers):
    """Return for each of some lists of stands what the numbers of its stands come to."""
    return [sum([numbers[stand] for stand in stands]) for stands in lists]


def numbers_met(table, many):
    """Return the list of how many fillings a table takes at the first widths, so many of them."""
    least = least_table(table)
    numbers = counts_of_ends(least)
    found = []
    for _ in range(many):
        found.append(numbers[0])
        numbers = numbers_through(least[1], numbers)
    return found


def told_by(rule, numbers, width):
    """Return the number that a rule tells for a width from the numbers ahead."""
    return sum([times * numbers[width - 1 - back] for back, times in enumerate(rule)])


def shortest_rule(table):
    """Return the shortest rule of the numbers of fillings of a table, and the numbers with which it begins."""
    size = len(least_table(table)[1])
    numbers = numbers_met(table, 2 * size)
    rule = rule_of(numbers, size)
    return (numbers[:len(rule)], rule)


def rule_of(numbers, size):
    """Return the shortest rule of numbers that obey one of at most this size; there are twice as many.

    The list that begins i places on is a column: the first one that is a sum of columns ahead
    of it, each taken some times, tells the rule. All divisions leave no rest: what each
    one divides are determinants, of which the divisor is one, too.
    """
    rows = [numbers[place:place + size + 1] for place in range(size)]
    divisor = 1
    for column in range(size):
        found = [place for place in range(column, size) if rows[place][column] != 0]
        if len(found) == 0:
            return told_times(rows, column, divisor)
        rows[column], rows[found[0]] = rows[found[0]], rows[column]
        rows = [reduced(row, rows[column], column, divisor, place == column) for place, row in enumerate(rows)]
        divisor = rows[column][column]
    return told_times(rows, size, divisor)


def reduced(row, chosen, column, divisor, is_chosen):
    """Return a row of which the chosen one is taken away, such that its item in a column is 0."""
    if is_chosen:
        return row
    own, times = chosen[column], row[column]
    return [(own * item - times * other) // divisor for item, other in zip(row, chosen)]


def told_times(rows, column, divisor):
    """Return how often the columns ahead of a column make it up, that right ahead of it first."""
    return [row[column] // divisor for row in rows[:column]][::-1]
