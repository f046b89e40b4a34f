"""What reads and writes are worth together, and what one lot adds to it."""

from copyvotes.chances import is_short
from copyvotes.errors import BadNumber, NoMeeting
from copyvotes.lots import others


def check_share(share):
    """Return the value if it is a share of reads."""
    if not is_short(share) or share < 0 or share > 1:
        raise BadNumber("share", share)
    return share


def worth(chances, share, reads, writes):
    """Return the share times the chance of a read plus the rest times the chance of a write."""
    check_share(share)
    reading = chances.up(reads)
    writing = chances.up(writes)
    check_meeting(reads, writes)
    return share * reading + (1 - share) * writing


def check_meeting(reads, writes):
    """Raise NoMeeting with the first minimal lots that do not meet."""
    for read in reads.lots:
        for write in writes.lots:
            if not any([copy in write for copy in read]):
                raise NoMeeting(read, write)


def gain(chances, share, lot):
    """Return what the worth gains if the lot is in the writes, so that the lot of the others is not in the reads."""
    check_share(share)
    mine = chances.alone(lot)
    theirs = chances.alone(others(len(chances), lot))
    return (1 - share) * mine - share * theirs
