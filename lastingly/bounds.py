"""What is sure of shares where readings lack."""

from lastingly.archive import Archive
from lastingly.errors import OutOfPlace
from lastingly.fraction import added, parted
from lastingly.gaps import Worn, gaps_of
from lastingly.limits import MOST_WARMTH, MOST_WET
from lastingly.story import life_of
from lastingly.words import is_among, is_whole

LEAST = "least"
MOST = "most"


def filled(archive, filling):
    """The archive without gaps that a filling makes."""
    _need_filling(archive, filling)
    kinds, rooms, boxes, things, events = archive.told()
    whole = [(name, shelves, taken, _whole_day(name, day, filling), seasons)
             for name, shelves, taken, day, seasons in rooms]
    return Archive(kinds, whole, boxes, things, events)


def share_bounds(archive, thing, hour):
    """The least and the greatest share of a thing at an hour, over all fillings."""
    worn = Worn(archive, thing, hour)
    least = most = worn.sure
    for gap, row in gaps_of(archive):
        least = added(least, worn.extreme(gap, row, LEAST)[0])
        most = added(most, worn.extreme(gap, row, MOST)[0])
    life = life_of(archive, thing)
    return parted(least, life), parted(most, life)


def filling_for(archive, thing, hour, which):
    """The filling by which a thing's share at an hour is the least or the most."""
    worn = Worn(archive, thing, hour)
    if which not in (LEAST, MOST):
        raise OutOfPlace("a filling is for the least or the most")
    return {gap: worn.extreme(gap, row, which)[1] for gap, row in gaps_of(archive)}


def _whole_day(room, day, filling):
    return tuple([_whole_row(row, filling[room, row[0]]) if None in row else row for row in day])


def _whole_row(row, readings):
    hour, warmth, wet = row
    return hour, readings[0] if warmth is None else warmth, readings[1] if wet is None else wet


def _need_filling(archive, filling):
    if not isinstance(filling, dict) or not all([_is_gap(gap) for gap in filling]):
        raise OutOfPlace("a filling is a dict by gaps")
    gaps = [gap for gap, _ in gaps_of(archive)]
    if len(filling) != len(gaps) or not all([gap in filling for gap in gaps]):
        raise OutOfPlace("a filling has just all gaps")
    if not all([_is_reading(readings) for readings in filling.values()]):
        raise OutOfPlace("a gap is filled with a tuple (warmth, wet)")


def _is_gap(thing):
    """Whether a key, of any kind, is of a gap's kind: True may not stand for the hour 1."""
    return isinstance(thing, tuple) and len(thing) == 2 and is_whole(thing[1])


def _is_reading(thing):
    if not isinstance(thing, tuple) or len(thing) != 2:
        return False
    warmth, wet = thing
    return is_among(warmth, 0, MOST_WARMTH) and is_among(wet, 0, MOST_WET)
