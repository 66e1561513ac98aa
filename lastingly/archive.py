"""The archive: its five lists."""


class Archive:
    """The kinds, rooms, boxes, things and events of an archive."""

    def __init__(self, kinds, rooms, boxes, things, events):
        # Kept as tuples: nobody who has them can change them in place.
        self.kinds = tuple(kinds)
        self.rooms = tuple(rooms)
        self.boxes = tuple(boxes)
        self.things = tuple(things)
        self.events = tuple(events)

    def told(self):
        """The five lists, each one the asker's own."""
        return list(self.kinds), list(self.rooms), list(self.boxes), list(self.things), list(self.events)
