"""The fewest reads of a row that have what is wanted by themselves, and the fewest reads of all."""

from tornreads.mending import goal_of, keep_shorter, stand_behind, start_of, tracks_of


def fewest_kept(counter, row, want):
    """The least number of reads of row that by themselves have want, None if row has not want."""
    part = part_for(counter, row, want)
    return None if part is None else len(part)


def part_for(counter, row, want):
    """The numbers of as few reads as can be that by themselves have want, None if row has not want."""
    tracks = tracks_of(counter, want)
    ways = {start_of(tracks): ()}
    for number, lot in enumerate(row):
        ahead = dict(ways)
        for stand in ahead:
            keep_shorter(ways, stand_behind(tracks, stand, lot), ahead[stand] + (number,))
    return ways.get(goal_of(tracks))


def fewest_lots(counter, most, want):
    """The least number of reads, each of at most most places, of a row that has want."""
    return len(lots_for(counter, most, want))


def lots_for(counter, most, want):
    """A row that has want of as few reads as can be, each of at most most places."""
    size = len(counter)
    up = [tuple(range(least, min(least + most, size))) for least in range(0, size, most)]
    down = up[::-1]
    if want == "down":
        return tuple(down)
    # The read of the least place serves a mirror on its way down and on its way up.
    return tuple(up if want == "up" else down + up[1:])
