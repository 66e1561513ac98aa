"""What is reckoned for an archive and an hour."""

from lastingly.fraction import parted
from lastingly.named import row_named
from lastingly.story import life_of, parts_by, stretch_wear, stretches


class Reckoned:
    """An archive and an hour, with the wear of each stretch of each thing up to it."""

    def __init__(self, archive, hour, ahead):
        self.archive = archive
        self.hour = hour
        self.worn = {}
        for thing in archive.things:
            self.worn[thing[0]] = [(stretch, _wear_of(archive, thing[0], stretch, ahead))
                                   for stretch in stretches(archive, thing[0], hour)]

    def share_of(self, thing):
        """The share of a thing, of anything, at the hour."""
        parts = row_named(self.archive.things, thing)[4]
        return parted(parts_by(parts, self.worn[thing]), life_of(self.archive, thing))

    def wear_kept(self, archive, thing, stretch):
        """The wear that is kept of a stretch, where it is just that in another archive; or None."""
        kind = row_named(archive.things, thing)[1]
        if row_named(archive.kinds, kind) != row_named(self.archive.kinds, kind):
            return None
        place = stretch[2]
        if place[0] == "room" and row_named(archive.rooms, place[1]) != row_named(self.archive.rooms, place[1]):
            return None
        for kept, wear in self.worn[thing]:
            # What a thing was mended to does not count in a stretch's wear.
            if kept[:3] == stretch[:3]:
                return wear
        return None

    def anew(self, ahead):
        """Pairs (THING, FIRST) of the stretches that what was reckoned ahead does not tell."""
        return [(thing, stretch[0]) for thing, worn in self.worn.items() for stretch, _ in worn
                if ahead.wear_kept(self.archive, thing, stretch) is None]


def _wear_of(archive, thing, stretch, ahead):
    wear = None if ahead is None else ahead.wear_kept(archive, thing, stretch)
    return stretch_wear(archive, thing, stretch) if wear is None else wear
