"""A keeper of an archive, who reckons anew only what changes."""

from lastingly.archive import Archive
from lastingly.errors import OutOfPlace
from lastingly.hours import need_hour
from lastingly.limits import MOST_EVENTS, MOST_HOURLY_PARTS, MOST_WARMTH, MOST_WET
from lastingly.looking import look_through
from lastingly.named import row_named
from lastingly.reckoned import Reckoned
from lastingly.words import is_among


class Keeper:
    """An archive and an hour. Each deed tells the stretches that were reckoned anew, as pairs (THING, FIRST)."""

    def __init__(self, archive, hour):
        need_hour(hour)
        self.now = Reckoned(_copy(archive), hour, None)
        self.earlier = []

    def its_archive(self):
        """The archive, as it is by now."""
        return _copy(self.now.archive)

    def its_hour(self):
        """The hour."""
        return self.now.hour

    def share_of(self, thing):
        """The share of a thing at the hour."""
        return self.now.share_of(thing)

    def all_shares(self):
        """Each thing with its share at the hour."""
        return [(thing[0], self.now.share_of(thing[0])) for thing in self.now.archive.things]

    def put_event(self, number, event):
        """An event comes in ahead of that of a number, or behind all."""
        events = list(self.now.archive.events)
        _need_number(number, 0, len(events))
        if len(events) == MOST_EVENTS:
            raise OutOfPlace("no more events may be there")
        events.insert(number, event)
        return self._do_with_events(events)

    def take_event(self, number):
        """The event of a number goes."""
        events = list(self.now.archive.events)
        _need_number(number, 0, len(events) - 1)
        del events[number]
        return self._do_with_events(events)

    def set_reading(self, room, row, warmth, wet):
        """A row of a room's day has these readings, None for one that lacks."""
        name, shelves, taken, day, seasons = row_named(self.now.archive.rooms, room)
        _need_number(row, 1, len(day))
        _need_reading(warmth, MOST_WARMTH)
        _need_reading(wet, MOST_WET)
        changed = (name, shelves, taken, _put(day, row, (day[row - 1][0], warmth, wet)), seasons)
        kinds, rooms, boxes, things, events = self.now.archive.told()
        return self._do_looked(Archive(kinds, _with_row(rooms, changed), boxes, things, events))

    def set_wear(self, kind, row, column, parts):
        """A kind has these parts at a row and a column of its table."""
        name, life, warmths, wets, lines = row_named(self.now.archive.kinds, kind)
        _need_number(row, 1, len(warmths))
        _need_number(column, 1, len(wets))
        _need_number(parts, 0, MOST_HOURLY_PARTS)
        changed = (name, life, warmths, wets, _put(lines, row, _put(lines[row - 1], column, parts)))
        kinds, rooms, boxes, things, events = self.now.archive.told()
        return self._do_looked(Archive(_with_row(kinds, changed), rooms, boxes, things, events))

    def set_hour(self, hour):
        """The hour is another one."""
        need_hour(hour)
        return self._do(self.now.archive, hour)

    def undo(self):
        """The last deed that was not taken back is taken back."""
        if not self.earlier:
            raise OutOfPlace("no deed is left to take back")
        ahead = self.now
        self.now = self.earlier.pop()
        return self.now.anew(ahead)

    def _do_with_events(self, events):
        kinds, rooms, boxes, things, _ = self.now.archive.told()
        return self._do_looked(Archive(kinds, rooms, boxes, things, events))

    def _do_looked(self, archive):
        look_through(archive)
        return self._do(archive, self.now.hour)

    def _do(self, archive, hour):
        # What is refused changes nothing: it is refused while this is made.
        behind = Reckoned(archive, hour, self.now)
        self.earlier.append(self.now)
        self.now = behind
        return behind.anew(self.earlier[-1])


def _copy(archive):
    kinds, rooms, boxes, things, events = archive.told()
    return Archive(kinds, rooms, boxes, things, events)


def _with_row(rows, changed):
    """Rows of which one has gone for another one of its name."""
    return [changed if row[0] == changed[0] else row for row in rows]


def _put(parts, place, part):
    """A tuple with another part at a place, from 1."""
    return (*parts[:place - 1], part, *parts[place:])


def _need_number(number, least, most):
    if not is_among(number, least, most):
        raise OutOfPlace("there is none of that number")


def _need_reading(reading, most):
    if reading is not None:
        _need_number(reading, 0, most)
