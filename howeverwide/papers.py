"""Papers of claims, made as their tables are built, and papers put together."""

from howeverwide.basics import MOST_NAMES, check_width, copied_table
from howeverwide.errors import InvalidName, InvalidPaper
from howeverwide.judge import is_paper
from howeverwide.kinds import label_of_key, lot_label, made_table
from howeverwide.pieces import copied_piece, names_of_piece, piece_of_claim, pieces_in
from howeverwide.walks import least_lots, lot_behind, masks_behind, stands_of
from howeverwide.words import check_claim, free_names


def check_paper(paper):
    """Refuse what is no right paper."""
    if not is_paper(paper):
        raise InvalidPaper(paper)


def paper_of(claim):
    """Return a right paper of a claim's piece, on its free names."""
    check_claim(claim)
    return piece_paper(piece_of_claim(claim), free_names(claim))


def piece_paper(piece, names):
    """Return the least paper of a piece, on names among which its free names are."""
    parts = [piece_paper(part, names_of_piece(part)) for part in pieces_in(piece)]
    return paper_around(made_paper(piece, names, parts))


def made_paper(piece, names, parts):
    """Return the right paper with these parts, its stands numbered as they are first reached."""
    table, keys = made_table(piece, names, [(part[1], part[2]) for part in parts])
    return (copied_piece(piece), list(names), table, [label_of_key(piece, key) for key in keys], parts)


def paper_around(paper):
    """Return the least paper around a right one, which becomes its part."""
    table, lots = least_lots(paper[2])
    return (copied_piece(paper[0]), list(paper[1]), table, [lot_label(stands) for stands in lots], [paper])


def no_paper(claim):
    """Return the paper of a claim if no filling meets it at any width, otherwise None."""
    paper = paper_of(claim)
    return None if any(paper[2][2]) else paper


def no_paper_at(width, claim):
    """Return what shows that no filling meets a claim at a width, None if some filling does."""
    check_width(width)
    paper = paper_of(claim)
    _, steps, ends = paper[2]
    behind = masks_behind(steps)
    lots = [1]
    for _ in range(width):
        lots.append(lot_behind(lots[-1], behind))
    lists = [stands_of(lot) for lot in lots]
    if any([ends[stand] for stand in lists[-1]]):
        return None
    return (paper, lists)


def paper_not(paper):
    """Return the right paper of the "not" of a paper's piece."""
    check_paper(paper)
    return made_paper(("not", paper[0]), paper[1], [copied_paper(paper)])


def paper_and(papers):
    """Return the right paper of the "and" of the pieces of some papers."""
    return paper_together("and", papers)


def paper_or(papers):
    """Return the right paper of the "or" of the pieces of some papers."""
    return paper_together("or", papers)


def paper_together(word, papers):
    """Return the right paper that has some papers as its parts, on all their names."""
    if not isinstance(papers, list) or len(papers) == 0 or not all([is_paper(paper) for paper in papers]):
        raise InvalidPaper(papers)
    names = sorted(set([name for paper in papers for name in paper[1]]))
    if len(names) > MOST_NAMES:
        raise InvalidPaper(papers)
    pieces = [paper[0] for paper in papers]
    return made_paper((word, *pieces), names, [copied_paper(paper) for paper in papers])


def paper_some(paper, name):
    """Return the right paper of the "some" of one of a paper's names."""
    check_paper(paper)
    if name not in paper[1]:
        raise InvalidName(name)
    return made_paper(("some", name, paper[0]), [other for other in paper[1] if other != name], [copied_paper(paper)])


def paper_least(paper):
    """Return the least paper around a right one."""
    check_paper(paper)
    return paper_around(copied_paper(paper))


def papers_in(paper):
    """Return the list of all papers in a right one, itself first."""
    check_paper(paper)
    return papers_from(paper)


def papers_from(paper):
    """Return the list of all papers in a paper, none of which has a list in common with another one."""
    return [copied_paper(paper)] + [inner for part in paper[4] for inner in papers_from(part)]


def copied_paper(paper):
    """Return an equal paper that has no list in common with the one that is handed."""
    piece, names, table, labels, parts = paper
    copied_parts = [copied_paper(part) for part in parts]
    return (copied_piece(piece), list(names), copied_table(table), list(labels), copied_parts)


def stands_in(paper):
    """Return how many labels all papers in a right one have together."""
    check_paper(paper)
    return labels_in(paper)


def labels_in(paper):
    """Return how many labels a paper and its parts have together."""
    return len(paper[3]) + sum([labels_in(part) for part in paper[4]])
