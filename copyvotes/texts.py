"""Stores and families as texts: each line is ended by a newline, and its words are separated by one space."""

from copyvotes.chances import Chances
from copyvotes.errors import BadText
from copyvotes.family import Family
from copyvotes.ratio import ratio_in
from copyvotes.words import is_number, read_number
from copyvotes.worth import check_share


def ended(lines):
    """Return the text of these lines."""
    return "".join([line + "\n" for line in lines])


def words_at(lines, place):
    """Return the words of the line at this place; behind the last newline stands no line."""
    if place >= len(lines) - 1:
        raise BadText(place + 1)
    return lines[place].split(" ")


def write_store(chances, share):
    """Return the text of the chances and the share."""
    words = ["copies"] + [str(ratio) for ratio in chances]
    return ended([" ".join(words), "share " + str(share)])


def read_store(text):
    """Return the chances and the share that the text tells."""
    lines = text.split("\n")
    ratios = ratios_at(lines, 0, "copies")
    shares = ratios_at(lines, 1, "share")
    if len(shares) != 1:
        raise BadText(2)
    if lines[2:] != [""]:
        raise BadText(3)
    return (Chances(*ratios), check_share(shares[0]))


def ratios_at(lines, place, name):
    """Return the ratios of the line at this place, which begins with the name."""
    words = words_at(lines, place)
    ratios = [ratio_in(word) for word in words[1:]]
    if words[0] != name or len(ratios) == 0 or any([ratio is None for ratio in ratios]):
        raise BadText(place + 1)
    return ratios


def write_family(family):
    """Return the text of the family."""
    lots = [" ".join([str(copy) for copy in lot]) for lot in family]
    return ended(["family " + str(family.copies)] + lots)


def read_family(text):
    """Return the family that the text tells."""
    lines = text.split("\n")
    words = words_at(lines, 0)
    if len(words) != 2 or words[0] != "family" or not is_number(words[1]):
        raise BadText(1)
    lots = [numbers_at(lines, place) for place in range(1, len(lines) - 1)]
    if len(lots) == 0 or lines[-1] != "":
        raise BadText(len(lines))
    return Family(read_number(words[1]), *lots)


def numbers_at(lines, place):
    """Return the numbers of the line at this place."""
    words = words_at(lines, place)
    if not all([is_number(word) for word in words]):
        raise BadText(place + 1)
    return [read_number(word) for word in words]
