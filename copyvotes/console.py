"""A store that is asked and changed by lines of words."""

from copyvotes.curve import Curve
from copyvotes.errors import BadNumber, NothingToUndo, TooMany
from copyvotes.live import Store
from copyvotes.ratio import ratio_in
from copyvotes.strict import heavy, most_strict
from copyvotes.votes import find_votes
from copyvotes.words import is_number, read_number


def set_share(store, share):
    """Answer "share RATIO"."""
    store.set_share(share)
    return "done"


def set_chance(store, copy, chance):
    """Answer "chance COPY RATIO"."""
    store.set_chance(copy, chance)
    return "done"


def add_copy(store, chance):
    """Answer "add RATIO"."""
    store.add_copy(chance)
    return "done"


def drop_copy(store, copy):
    """Answer "drop COPY"."""
    store.drop_copy(copy)
    return "done"


def undo(store):
    """Answer "undo"."""
    store.undo()
    return "done"


def tell_most(store):
    """Answer "most"."""
    return str(store.most())


def tell_strict(store):
    """Answer "strict"."""
    return str(most_strict(store.chances, store.share))


def tell_writes(store):
    """Answer "writes"."""
    return lots_told(store.writes())


def tell_reads(store):
    """Answer "reads"."""
    return lots_told(store.writes().dual())


def tell_heavy(store):
    """Answer "heavy"."""
    return lots_told(heavy(store.chances))


def tell_votes(store):
    """Answer "votes"."""
    try:
        found = find_votes(store.writes())
    except TooMany:
        return "many"
    if found is None:
        return "none"
    votes = " ".join([str(vote) for vote in found.votes])
    return f"{found.quota}: {votes}"


def tell_table(store):
    """Answer "table"."""
    return "\n".join([row_told(row) for row in Curve(store.chances)])


def row_told(row):
    """Return a row of a curve as a line: its start, its end and the number of minimal lots."""
    return f"{str(row[0]):>9}{str(row[1]):>10}{len(row[4]):>4}"


def lots_told(family):
    """Return the minimal lots of the family."""
    return " ".join([",".join([str(copy) for copy in lot]) for lot in family])


# What stands behind the first word of a line; behind others stands nothing.
FORMS = {
    "share": ("ratio",),
    "chance": ("copy", "ratio"),
    "add": ("ratio",),
    "drop": ("copy",),
}

ACTIONS = {
    "share": set_share,
    "chance": set_chance,
    "add": add_copy,
    "drop": drop_copy,
    "undo": undo,
    "most": tell_most,
    "strict": tell_strict,
    "writes": tell_writes,
    "reads": tell_reads,
    "heavy": tell_heavy,
    "votes": tell_votes,
    "table": tell_table,
}


def console(chances, share, lines):
    """Return the answers to the lines, one by one."""
    store = Store(chances, share)
    return [answer(store, line) for line in lines]


def answer(store, line):
    """Return the answer to one line."""
    words = line.split(" ")
    if words[0] not in ACTIONS:
        return "unknown"
    values = values_in(FORMS.get(words[0], ()), words[1:])
    if values is None:
        return "form"
    action = ACTIONS[words[0]]
    try:
        return action(store, *values)
    except BadNumber:
        return "number"
    except NothingToUndo:
        return "nothing"


def values_in(form, words):
    """Return what the words tell, None if they have another form."""
    values = [ratio_in(word) if kind == "ratio" else number_in(word) for kind, word in zip(form, words)]
    if len(words) != len(form) or any([value is None for value in values]):
        return None
    return values


def number_in(word):
    """Return the number that the word tells, None if it tells none."""
    return read_number(word) if is_number(word) else None
