"""Looking through an archive: whether its rows can stand beside each other."""

from lastingly.errors import BadArchive
from lastingly.limits import MOST_LACKING_ROWS


def look_through(archive):
    """Refuses an archive by the first row that cannot stand beside those ahead of it."""
    seen = Seen()
    for kind in archive.kinds:
        _refuse(seen.fault_of_kind(kind), kind[0])
    for room in archive.rooms:
        _refuse(seen.fault_of_room(room), room[0])
    for box in archive.boxes:
        _refuse(seen.fault_of_box(box), box[0])
    for thing in archive.things:
        _refuse(seen.fault_of_thing(thing), thing[0])
    for event in archive.events:
        _refuse(seen.fault_of_event(event), event[1])


def _refuse(fault, name):
    if fault is not None:
        raise BadArchive(fault, name)


class Seen:
    """What the rows looked at so far tell. Each method looks at one more: its fault, or None."""

    def __init__(self):
        self.kinds = {}
        self.kinds_of_rooms = {}
        self.boxes = {}
        self.kind_of_things = {}
        self.lacking_rows = 0
        self.hour = 0
        self.back_hours = {}

    def fault_of_kind(self, kind):
        name = kind[0]
        if name in self.kinds:
            return "twice"
        self.kinds[name] = True
        return None

    def fault_of_room(self, room):
        name, _, kinds, day, _ = room
        if name in self.kinds_of_rooms:
            return "twice"
        if not all([kind in self.kinds for kind in kinds]):
            return "unknown"
        self.lacking_rows += len([row for row in day if None in row])
        if self.lacking_rows > MOST_LACKING_ROWS:
            return "lacks"
        self.kinds_of_rooms[name] = kinds
        return None

    def fault_of_box(self, box):
        name = box[0]
        if name in self.boxes:
            return "twice"
        self.boxes[name] = True
        return None

    def fault_of_thing(self, thing):
        name, kind, room, box, _ = thing
        if name in self.kind_of_things:
            return "twice"
        if kind not in self.kinds or not self._has_room(room) or not self._has_box(box):
            return "unknown"
        if not self._takes(room, kind):
            return "kind"
        self.kind_of_things[name] = kind
        return None

    def fault_of_event(self, event):
        hour, thing, deed = event
        if thing not in self.kind_of_things or not self._knows(deed):
            return "unknown"
        if deed[0] == "move" and not self._takes(deed[1], self.kind_of_things[thing]):
            return "kind"
        if hour < self.hour:
            return "late"
        if hour < self.back_hours.get(thing, 0):
            return "away"
        self.hour = hour
        if deed[0] == "lend":
            self.back_hours[thing] = hour + deed[1]
        return None

    def _knows(self, deed):
        """Whether the room or the box in a deed is there."""
        if deed[0] == "move":
            return self._has_room(deed[1])
        return deed[0] != "box" or self._has_box(deed[1])

    def _has_room(self, room):
        return room in self.kinds_of_rooms

    def _has_box(self, box):
        # An empty name is that of no box at all.
        return box == "" or box in self.boxes

    def _takes(self, room, kind):
        kinds = self.kinds_of_rooms[room]
        return len(kinds) == 0 or kind in kinds
