"""The carries of sums of any number of terms.

A list of carries is told by the least carry that it may have, and by a number whose bit at
each place is 1 if the carry greater by so much is in the list: so the bits of all words are
added to all carries at once, without going through the letters, of which there may be many.
"""


def carries_after(least, marks, terms):
    """Return which carries come of some carries and of any bits, in the same form."""
    for k, _ in terms:
        marks = marks | (marks << abs(k))
        least = least + min(k, 0)
    if least % 2 == 1:
        least = least + 1
        marks = marks >> 1
    # Odd sums have no carry; the even ones stand at every second figure, from the last one on.
    figures = f"{marks:b}"
    return least // 2, int(figures[::-2][::-1], 2)


def carries_at(atom, width):
    """Return which carries of a sum are reached at a width, in the same form."""
    least, marks = atom[2], 1
    for _ in range(width):
        least, marks = carries_after(least, marks, atom[1])
    return least, marks


def bounds_of(least, marks):
    """Return the tuple of the least and the greatest carry, None if there is none."""
    if marks == 0:
        return None
    lowest = (marks & -marks).bit_length() - 1
    return (least + lowest, least + marks.bit_length() - 1)


def listed_carries(least, marks):
    """Return the ascending list of the carries."""
    figures = f"{marks:b}"
    return [least + place for place, figure in enumerate(figures[::-1]) if figure == "1"]


def all_carries(atom):
    """Return the ascending list of all carries of a sum that are reached at some width."""
    found = {}
    least, marks = atom[2], 1
    new = [atom[2]]
    # A width at which nothing new comes is behind all others that bring something new.
    while len(new) > 0:
        for carry in new:
            found[carry] = True
        least, marks = carries_after(least, marks, atom[1])
        new = [carry for carry in listed_carries(least, marks) if carry not in found]
    return sorted(found)
