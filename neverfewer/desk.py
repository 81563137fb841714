"""A desk that keeps drawings and claims, and is told commands."""

from neverfewer.claims import paper_of
from neverfewer.commands import read_command
from neverfewer.deskwork import changes, deed_done, known, labelled
from neverfewer.errors import NothingToRedo, NothingToUndo


class Desk:
    """A desk. What it keeps, what it kept ahead of each deed, and what was undone is never changed, only exchanged."""

    def __init__(self):
        self._kept = ({}, {}, {})
        self._past = ()
        self._undone = ()

    def do(self, command):
        """Does the deed of one command; returns its answer."""
        return self.do_all([command])[0]

    def do_all(self, commands):
        """Does the deeds of all commands, or of none; returns the list of their answers."""
        answers = []
        whole = (self._kept, self._past, self._undone)
        for command in commands:
            answer, whole = _done(whole, read_command(command))
            answers.append(answer)
        self._kept, self._past, self._undone = whole
        return answers

    def names(self):
        """The sorted list of the names."""
        return sorted(self._kept[0])

    def labels(self):
        """The sorted list of the labels."""
        return sorted(self._kept[1])

    def drawing(self, name):
        """The drawing that is kept under the name."""
        return known(self._kept[0], name)

    def state(self, label):
        """The state of the claim that is kept under the label."""
        return labelled(self._kept[2], label)

    def claim(self, label):
        """The command of the claim, without its first word and the label."""
        return " ".join([str(part) for part in labelled(self._kept[1], label)])

    def paper(self, label):
        """A paper of the claim; None if its state is None."""
        return paper_of(labelled(self._kept[1], label), self._kept[0])


def _done(whole, deed):
    """The answer to a deed, and what is kept, was kept and is undone behind it."""
    kept, past, undone = whole
    if deed[0] == "undo":
        if not past:
            raise NothingToUndo()
        return changes(kept, past[-1]), (past[-1], past[:-1], undone + (kept,))
    if deed[0] == "redo":
        if not undone:
            raise NothingToRedo()
        return changes(kept, undone[-1]), (undone[-1], past + (kept,), undone[:-1])
    new = deed_done(kept, deed)
    # A new claim changes the state of no other one.
    answer = [(deed[1], new[2][deed[1]])] if deed[0] == "claim" else changes(kept, new)
    return answer, (new, past + (kept,), ())
