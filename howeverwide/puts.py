"""Claims with something put in for their names, and with other names."""

from howeverwide.basics import copied_table
from howeverwide.errors import InvalidNames
from howeverwide.words import check_claim, check_expression, check_name, claims_in, free_names, is_name, names_free
from howeverwide.words import names_of_expression, names_standing, parts_of, with_claims, with_expressions


def put_in(claim, name, expression):
    """Return the claim in which an expression stands for a free name."""
    check_claim(claim)
    check_name(name)
    check_expression(expression)
    taken = marked(names_standing(claim) + [name] + names_of_expression(expression))
    return claim_with(claim, {name: expression}, taken, False)


def renamed(claim, pairs):
    """Return the claim with other free names, all at once."""
    check_claim(claim)
    if not are_pairs(pairs) or not gives_way(free_names(claim), pairs):
        raise InvalidNames(pairs)
    taken = marked(names_standing(claim) + [old for old, _ in pairs] + [new for _, new in pairs])
    return claim_with(claim, dict(pairs), taken, False)


def plain_bound(claim):
    """Return the claim in which the bound names are t1, t2 and so on."""
    check_claim(claim)
    return claim_with(claim, {}, marked(names_free(claim)), True)


def are_renamings(one, other):
    """Return whether two claims are alike but for bound names."""
    check_claim(one)
    check_claim(other)
    return plain_bound(one) == plain_bound(other)


def are_pairs(value):
    """Return whether a value is a list of tuples of two names, in each of both places each name once."""
    if not isinstance(value, list) or not all([is_pair(pair) for pair in value]):
        return False
    return len(set([old for old, _ in value])) == len(set([new for _, new in value])) == len(value)


def is_pair(value):
    """Return whether a value is a tuple of two names."""
    return isinstance(value, tuple) and len(value) == 2 and is_name(value[0]) and is_name(value[1])


def gives_way(names, pairs):
    """Return whether no new name of some pairs is one of the names that are not given away."""
    old_ones = [old for old, _ in pairs]
    kept = [name for name in names if name not in old_ones]
    return all([new not in kept for _, new in pairs])


def marked(names):
    """Return a dict in which all names are."""
    return {name: True for name in names}


def fresh_name(taken):
    """Return the first of t1, t2 and so on that is not taken, and take it."""
    number = 1
    while f"t{number}" in taken:
        number += 1
    taken[f"t{number}"] = True
    return f"t{number}"


def expression_with(expression, puts):
    """Return an expression in which what is put in stands for its names."""
    if isinstance(expression, str):
        return puts.get(expression, expression)
    return with_expressions(expression, [expression_with(part, puts) for part in parts_of(expression)])


def claim_with(claim, puts, taken, each):
    """Return a claim in which what is put in stands for its free names.

    puts has an expression for each name that gives way, taken the names that are not to be
    made; each tells whether all bound names give way, or just those that would bind a name
    that is put in.
    """
    if claim[0] == "told":
        return told_with(claim, puts, taken)
    if claim[0] in ("some", "all"):
        return bound_with(claim, puts, taken, each)
    claims = claims_in(claim)
    if len(claims) > 0:
        return with_claims(claim, [claim_with(part, puts, taken, each) for part in claims])
    return with_expressions(claim, [expression_with(part, puts) for part in parts_of(claim)])


def bound_with(claim, puts, taken, each):
    """Return a "some" or an "all" in which what is put in stands for its free names."""
    word, name, inner = claim
    within = {other: puts[other] for other in puts if other != name}
    if each or would_bind(name, inner, within):
        new = fresh_name(taken)
        within[name] = new
        return (word, new, claim_with(inner, within, taken, each))
    return (word, name, claim_with(inner, within, taken, each))


def would_bind(name, claim, puts):
    """Return whether a name stands in what is put in for a free name of a claim."""
    return any([name in names_standing(puts[other]) for other in names_free(claim) if other in puts])


def told_with(claim, puts, taken):
    """Return a "told" in which what is put in stands for its names, within a "some" if it must."""
    table = copied_table(claim[1])
    names = [puts.get(name, name) for name in claim[2]]
    for place, name in enumerate(claim[2]):
        others = names[:place] + names[place + 1:]
        if name in puts and (not is_name(names[place]) or names[place] in others):
            new = fresh_name(taken)
            told = ("told", table, names[:place] + [new] + names[place + 1:])
            return ("some", new, ("and", ("same", new, names[place]), told))
    return ("told", table, names)
