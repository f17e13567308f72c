"""A live solver: claims in layers, deeds that can be taken back and done again, and what meets all claims."""

from howeverwide.basics import check_width, is_count
from howeverwide.building import table_of
from howeverwide.errors import InvalidDeed, NothingToRedo, NothingToUndo
from howeverwide.fillings import filling_numbered, how_many_rows
from howeverwide.papers import no_paper
from howeverwide.reach import met_widths, sure_widths
from howeverwide.sheets import read_sheet, written_sheet
from howeverwide.words import check_claim, copied_claim, first_word, is_claim, names_free

MOST_CLAIMS = 12
MOST_LAYERS = 9
MOST_FREE = 4


class Solver:
    """Keeps claims in layers, of which the topmost one is worked in."""

    def __init__(self):
        # The layers ahead of the first deed, and those behind each one: no list in here is ever changed.
        self.states = [[[]]]
        self.deeds = []
        self.done = 0

    def __eq__(self, other):
        if not isinstance(other, Solver) or self.states[self.done] != other.states[other.done]:
            return False
        return self.deeds[:self.done] == other.deeds[:other.done]

    def layers(self):
        """Return the list of the lists of claims of all layers, the lowest one first."""
        return [[copied_claim(claim) for claim in layer] for layer in self.states[self.done]]

    def claims(self):
        """Return the list of all claims, those of the lowest layer first."""
        return [claim for layer in self.layers() for claim in layer]

    def names(self):
        """Return the list of the free names of all claims, in order, each once."""
        return names_of_layers(self.states[self.done])

    def together(self):
        """Return the claim that holds where all claims do."""
        return ("and", *self.claims())

    def sheet(self):
        """Return the sheet of all claims."""
        return written_sheet(self.claims())

    def do(self, deed):
        """Do a deed, and forget what was undone."""
        layers = layers_behind(self.states[self.done], deed)
        if layers is None:
            raise InvalidDeed(deed)
        self.states = self.states[:self.done + 1] + [layers]
        self.deeds = self.deeds[:self.done] + [copied_deed(deed)]
        self.done += 1

    def undo(self):
        """Take the last deed back that is not taken back yet."""
        if self.done == 0:
            raise NothingToUndo()
        self.done -= 1

    def redo(self):
        """Do again what was taken back last."""
        if self.done == len(self.deeds):
            raise NothingToRedo()
        self.done += 1

    def log(self):
        """Return the list of the deeds that are done and not taken back."""
        return [copied_deed(deed) for deed in self.deeds[:self.done]]

    def copy(self):
        """Return an equal solver that can undo and redo the same, and goes its own way."""
        twin = Solver()
        twin.states = list(self.states)
        twin.deeds = list(self.deeds)
        twin.done = self.done
        return twin

    def met(self, width):
        """Return the first filling of a width that meets all claims, None if there is none."""
        check_width(width)
        return filling_numbered(table_of(self.together()), self.names(), width, 0)

    def how_many(self, width):
        """Return how many fillings of a width meet all claims."""
        check_width(width)
        return how_many_rows(table_of(self.together()), width)

    def widths(self):
        """Return the widths at which some filling meets all claims."""
        return met_widths(self.together())

    def paper(self):
        """Return the paper that shows that no filling meets all claims at any width, None if some does."""
        return no_paper(self.together())

    def sure(self, claim):
        """Return the widths at which a claim holds for all fillings that meet all claims."""
        check_claim(claim)
        return sure_widths(("then", self.together(), claim))


def is_deed(solver, value):
    """Return whether any value is a deed that a solver can do now."""
    if not isinstance(solver, Solver):
        raise InvalidDeed(solver)
    return layers_behind(solver.states[solver.done], value) is not None


def names_of_layers(layers):
    """Return the list of the free names of all claims in layers, in order, each once."""
    return sorted(set([name for layer in layers for claim in layer for name in names_free(claim)]))


def layers_behind(layers, deed):
    """Return the layers behind a deed, None if any value is no deed that can be done with these layers."""
    found = layers_changed(layers, deed)
    return found if found is not None and are_few(found) else None


def layers_changed(layers, deed):
    """Return the layers behind a deed, however many they are, None if any value is no such deed."""
    word = first_word(deed)
    if word == "push" and len(deed) == 1:
        return layers + [[]]
    if word == "pop" and len(deed) == 1:
        return layers[:-1] if len(layers) > 1 else None
    if word not in ("claim", "drop", "read") or len(deed) != 2:
        return None
    topmost = topmost_behind(layers[-1], word, deed[1])
    return layers[:-1] + [topmost] if topmost is not None else None


def topmost_behind(topmost, word, told):
    """Return the topmost layer behind a deed that tells something, None if it cannot be done."""
    if word == "claim":
        return topmost + [copied_claim(told)] if is_claim(told) else None
    if word == "drop":
        return topmost[:told] + topmost[told + 1:] if is_count(told) and told < len(topmost) else None
    if not isinstance(told, str):
        return None
    claims, many = read_sheet(told)
    return topmost + claims if many == len(told) else None


def are_few(layers):
    """Return whether there are no more layers, claims and free names than a solver keeps."""
    many = sum([len(layer) for layer in layers])
    return len(layers) <= MOST_LAYERS and many <= MOST_CLAIMS and len(names_of_layers(layers)) <= MOST_FREE


def copied_deed(deed):
    """Return an equal deed that has no list in common with the one that is handed."""
    return ("claim", copied_claim(deed[1])) if deed[0] == "claim" else deed
