"""Histories: states that can be undone, and redone until there is another one."""

from missingmiles.errors import NothingLeft


class History:
    """The states up to the present one, which is the last of them, and those that were undone."""

    def __init__(self, first):
        self.states = [first]
        self.undone = []

    def go_on(self, more):
        """Puts some states behind the present one; without any, nothing changes."""
        if more:
            self.states.extend(list(more))
            self.undone = []

    def go_back(self):
        """Undoes the present state."""
        if len(self.states) == 1:
            raise NothingLeft()
        self.undone.append(self.states.pop())

    def go_again(self):
        """Redoes the state that was undone last."""
        if not self.undone:
            raise NothingLeft()
        self.states.append(self.undone.pop())

    def counts(self):
        """The pair of the numbers of states that can be undone and redone."""
        return (len(self.states) - 1, len(self.undone))

    def twin_of(self):
        """An independent history of the same states."""
        other = History(self.states[0])
        other.states = list(self.states)
        other.undone = list(self.undone)
        return other
