"""What is read in rooms and boxes, and what kinds wear by it."""

from lastingly.errors import Lacking, OutOfPlace
from lastingly.fraction import added, times
from lastingly.hours import hours_by_rows, need_hour, row_at, season_at
from lastingly.limits import MOST_WARMTH, MOST_WET, brought_within
from lastingly.named import row_named
from lastingly.table import wear_at
from lastingly.words import is_among


def reading_at(archive, room, hour):
    """The warmth and the wet that are read in a room at an hour."""
    row = row_named(archive.rooms, room)
    need_hour(hour)
    _need_all_readings(row)
    _, warmth, wet = row_at(row, hour)
    return shifted(warmth, wet, season_at(row, hour))


def wet_in(archive, box, wet):
    """The wet that is read in a box where it is that wet around it."""
    least, greatest = _bounds_of(archive, box)
    if not is_among(wet, 0, MOST_WET):
        raise OutOfPlace("a wet goes from 0 to 100")
    return brought_within(wet, least, greatest)


def hour_wear(archive, kind, room, box, hour):
    """What a kind wears at an hour, in a room and a box."""
    _need_names(archive, kind, room, box)
    return reading_wear(archive, kind, box, reading_at(archive, room, hour))


def span_wear(archive, kind, room, box, first, behind):
    """What a kind wears from an hour to the one ahead of another one, in a room and a box."""
    row = _need_names(archive, kind, room, box)
    need_hour(first)
    need_hour(behind)
    if first > behind:
        raise OutOfPlace("a span does not go backwards")
    # No hour counts here, so that nothing lacks either.
    if first == behind:
        return 0, 1
    _need_all_readings(row)
    worn = (0, 1)
    for (_, warmth, wet), season, hours in hours_by_rows(row, first, behind):
        wear = reading_wear(archive, kind, box, shifted(warmth, wet, season))
        worn = added(worn, times(wear, hours))
    return worn


def lacking_rows(archive, room):
    """The hours of the day at which rows of a room begin that lack something."""
    return [row[0] for row in row_named(archive.rooms, room)[3] if None in row]


def reading_wear(archive, kind, box, reading):
    """What a kind wears in a box, in an hour of a reading."""
    warmth, wet = reading
    return wear_at(archive, kind, warmth, wet_in(archive, box, wet))


def shifted(warmth, wet, season):
    """What is read of a warmth and a wet by a row of seasons."""
    _, warmer, wetter = season
    return brought_within(warmth + warmer, 0, MOST_WARMTH), brought_within(wet + wetter, 0, MOST_WET)


def _need_names(archive, kind, room, box):
    """The row of the room; refuses names that are not there, in their order."""
    row_named(archive.kinds, kind)
    row = row_named(archive.rooms, room)
    _bounds_of(archive, box)
    return row


def _bounds_of(archive, box):
    """The least and the greatest wet of a box; all wets where it is none."""
    return (0, MOST_WET) if box == "" else row_named(archive.boxes, box)[1:]


def _need_all_readings(room):
    if any([None in row for row in room[3]]):
        raise Lacking(room[0])
