"""A store that goes on: its chances and its share change, and changes can be taken back.

What a store holds is a state: the tuple of its chances and its share.
"""

from copyvotes.best import least_writes, most_worth
from copyvotes.chances import Chances, without_copy
from copyvotes.errors import BadDeed, NothingToUndo, VoteError
from copyvotes.strict import strict_writes
from copyvotes.words import check_number
from copyvotes.worth import check_share

MOST_UNDONE = 100


class Store:
    """The present chances and share of a store; depth is the number of changes that can be taken back.

    state is the present state, and past are the earlier ones, the first one
    first.
    """

    def __init__(self, chances, share):
        self.state = (chances, check_share(share))
        self.past = []
        self.depth = 0

    @property
    def chances(self):
        """The present chances."""
        return self.state[0]

    @property
    def share(self):
        """The present share of reads, which can be assigned."""
        return self.state[1]

    @share.setter
    def share(self, value):
        self.set_share(value)

    def set_share(self, share):
        """Change the share."""
        self.go_on([after_share(self.state, share)])

    def set_chance(self, copy, chance):
        """Change the chance of one copy."""
        self.go_on([after_chance(self.state, copy, chance)])

    def add_copy(self, chance):
        """Add a copy behind the others."""
        self.go_on([after_adding(self.state, chance)])

    def drop_copy(self, copy):
        """Take one copy away; those behind it move down by one."""
        self.go_on([after_dropping(self.state, copy)])

    def do_all(self, *deeds):
        """Do several changes, all or none; a deed is the name of a method and its arguments."""
        states = [self.state]
        for place, deed in enumerate(deeds):
            states.append(after_deed(place, states[-1], deed))
        self.go_on(states[1:])

    def go_on(self, states):
        """Take these states, one by one."""
        for state in states:
            self.past.append(self.state)
            self.state = state
        self.depth = len(self.past)

    def undo(self, count=1):
        """Take back the last changes."""
        check_number("count", count, 1, MOST_UNDONE)
        if count > self.depth:
            raise NothingToUndo()
        self.depth = self.depth - count
        self.state = self.past[self.depth]
        del self.past[self.depth:]

    def most(self):
        """Return most_worth now."""
        return most_worth(self.chances, self.share)

    def writes(self):
        """Return least_writes now."""
        return least_writes(self.chances, self.share)

    def strict(self):
        """Return strict_writes now."""
        return strict_writes(self.chances, self.share)


def after_share(state, share):
    """Return the state with this share."""
    return (state[0], check_share(share))


def after_chance(state, copy, chance):
    """Return the state with this chance of the copy."""
    return (state[0].with_chance(copy, chance), state[1])


def after_adding(state, chance):
    """Return the state with one copy more."""
    ratios = state[0].ratios
    # Chances checks the number of copies before any chance.
    return (Chances(*ratios, chance), state[1])


def after_dropping(state, copy):
    """Return the state without the copy."""
    return (without_copy(state[0], copy), state[1])


CHANGES = {
    "set_share": after_share,
    "set_chance": after_chance,
    "add_copy": after_adding,
    "drop_copy": after_dropping,
}


def after_deed(place, state, deed):
    """Return the state after the deed."""
    name = deed[0]
    if not isinstance(name, str) or name not in CHANGES:
        raise BadDeed(place)
    change = CHANGES[name]
    arguments = deed[1:]
    try:
        return change(state, *arguments)
    except VoteError as error:
        raise BadDeed(place) from error
