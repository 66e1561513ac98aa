"""Gaps, and what the hours in them that count are worn by the readings that they may have."""

from lastingly.climate import reading_wear, shifted
from lastingly.fraction import added, is_less, times
from lastingly.hours import hours_by_rows
from lastingly.limits import MOST_WARMTH, MOST_WET
from lastingly.named import row_named
from lastingly.story import counting, parts_at_first, stretch_wear, stretches


def gaps_of(archive):
    """Pairs of each gap (ROOM, HOUR) of an archive and its row of the room's day."""
    return [((room[0], row[0]), row) for room in archive.rooms for row in room[3] if None in row]


class Worn:
    """What a thing has worn at an hour: the parts that are sure, and of each gap the hours that count."""

    def __init__(self, archive, thing, hour):
        self.archive = archive
        _, self.kind, _, _, parts = row_named(archive.things, thing)
        self.sure = (parts, 1)
        # By the gap, in it by the season's row and the box: these tell what is read of the gap's warmth and wet.
        self.hours = {gap: {} for gap, _ in gaps_of(archive)}
        self.wears = {}
        for stretch in counting(stretches(archive, thing, hour)):
            self.sure = parts_at_first(self.sure, stretch)
            self._add(thing, stretch)

    def extreme(self, gap, row, which):
        """The least or the most that a gap's hours are worn in all, and the first (warmth, wet) by which they are."""
        hours = self.hours[gap]
        warmths = self._warmths(hours) if row[1] is None else [row[1]]
        wets = self._wets(hours) if row[2] is None else [row[2]]
        found = None
        at = None
        for warmth in warmths:
            for wet in wets:
                wear = self._wear_of(hours, warmth, wet)
                if found is None or _is_beyond(wear, found, which):
                    found = wear
                    at = (warmth, wet)
        return found, at

    def _add(self, thing, stretch):
        first, behind, place, _ = stretch
        if place[0] == "away":
            self.sure = added(self.sure, stretch_wear(self.archive, thing, stretch))
            return
        _, name, box = place
        for row, season, hours in hours_by_rows(row_named(self.archive.rooms, name), first, behind):
            if None in row:
                counted = self.hours[name, row[0]]
                counted[season, box] = counted.get((season, box), 0) + hours
            else:
                wear = self._wear_by(shifted(row[1], row[2], season), box)
                self.sure = added(self.sure, times(wear, hours))

    def _wear_of(self, hours, warmth, wet):
        """What a gap's hours are worn in all, where it has that warmth and wet."""
        worn = (0, 1)
        for (season, box), many in hours.items():
            worn = added(worn, times(self._wear_by(shifted(warmth, wet, season), box), many))
        return worn

    def _wear_by(self, reading, box):
        # Many warmths and wets of a gap are read alike, so that what they come to is kept.
        if (reading, box) not in self.wears:
            self.wears[reading, box] = reading_wear(self.archive, self.kind, box, reading)
        return self.wears[reading, box]

    # Between neighbouring numbers of these the wear of all hours changes evenly, along the
    # warmth and along the wet. So where it is least or most, it is so at such numbers, too,
    # and the least warmth and wet of that kind are such numbers.

    def _warmths(self, hours):
        points = row_named(self.archive.kinds, self.kind)[2]
        turns = [point - season[1] for season, _ in hours for point in points]
        return _rising([0, MOST_WARMTH, *turns], MOST_WARMTH)

    def _wets(self, hours):
        turns = [point - season[2] for season, box in hours for point in self._points_in(box)]
        return _rising([0, MOST_WET, *turns], MOST_WET)

    def _points_in(self, box):
        points = row_named(self.archive.kinds, self.kind)[3]
        return points if box == "" else (*points, *row_named(self.archive.boxes, box)[1:])


def _rising(numbers, most):
    """The unlike ones of some numbers from 0 to the most, rising."""
    return sorted(set([number for number in numbers if 0 <= number <= most]))


def _is_beyond(one, other, which):
    return is_less(one, other) if which == "least" else is_less(other, one)
