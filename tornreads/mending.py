"""The fewest reads that are to be put into a row so that it has what is wanted."""

from tornreads.bounds import MAX_READS
from tornreads.errors import TooMany
from tornreads.kinds import is_between, is_tuple_of
from tornreads.ladders import rungs_met, rungs_of


def puts_error(counter, row, value):
    """None if value is puts for row, otherwise what is wrong with it."""
    if not isinstance(value, tuple) or not all([is_tuple_of(item, 2, 2) for item in value]):
        return "form"
    least = 0
    for k, (read, place) in enumerate(value):
        if not is_between(read, least, len(row)):
            return ("read", k)
        if not is_between(place, 0, len(counter) - 1):
            return ("place", k)
        least = read
    return None


def put_in(counter, row, puts):
    """The row that comes of it when puts are put in."""
    check_reads(row, puts)
    found = []
    for number in range(len(row) + 1):
        found.extend([(place,) for read, place in puts if read == number])
        found.extend(row[number:number + 1])
    return tuple(found)


def fewest_puts(counter, row, want):
    """The least number of puts behind which row has want."""
    return len(puts_for(counter, row, want))


def puts_for(counter, row, want):
    """As few puts as can be behind which row has want."""
    tracks = tracks_of(counter, want)
    ways = {start_of(tracks): ()}
    for number, lot in enumerate(row):
        ways = with_read(tracks, with_puts(tracks, ways, number), lot)
    puts = with_puts(tracks, ways, len(row))[goal_of(tracks)]
    check_reads(row, puts)
    return puts


def check_reads(row, puts):
    """Raises TooMany if the row has too many reads with puts."""
    if len(row) + len(puts) > MAX_READS:
        raise TooMany(MAX_READS)


def tracks_of(counter, want):
    """The rungs of each ladder that is wanted."""
    ways = ("down", "up") if want == "both" else (want,)
    return [rungs_of(counter, way) for way in ways]


def start_of(tracks):
    """The stand at which no rung has been met: for each track how many of its rungs have been."""
    return tuple([0 for rungs in tracks])


def goal_of(tracks):
    """The stand at which all rungs have been met."""
    return tuple([len(rungs) for rungs in tracks])


def stand_behind(tracks, stand, lot):
    """The stand behind a read of lot, if stand was that ahead of it."""
    return tuple([rungs_met(rungs, met, lot) for rungs, met in zip(tracks, stand)])


def with_puts(tracks, ways, number):
    """The shortest puts for each stand that can be come to by ways and further puts at number."""
    found = dict(ways)
    # A put leads to a stand of more rungs, so with fewer rungs nothing shorter comes behind.
    for met in range(sum(goal_of(tracks))):
        for stand in [near for near in found if sum(near) == met]:
            for place in next_places(tracks, stand):
                keep_shorter(found, stand_behind(tracks, stand, (place,)), found[stand] + ((number, place),))
    return found


def with_read(tracks, ways, lot):
    """The shortest puts for each stand behind a read of lot, told those ahead of it."""
    found = {}
    for stand in ways:
        keep_shorter(found, stand_behind(tracks, stand, lot), ways[stand])
    return found


def next_places(tracks, stand):
    """The places that are next on some track."""
    return [rungs[met] for rungs, met in zip(tracks, stand) if met < len(rungs)]


def keep_shorter(ways, stand, way):
    """Keeps way for stand if none as short is kept for it."""
    if stand not in ways or len(way) < len(ways[stand]):
        ways[stand] = way
