"""What a thing goes through, stretch by stretch, and what it has worn by it."""

from lastingly.climate import span_wear
from lastingly.fraction import added, parted, times
from lastingly.hours import need_hour
from lastingly.named import row_named
from lastingly.table import wear_at


def stretches(archive, thing, hour):
    """The stretches (FIRST, BEHIND, PLACE, MENDED) of a thing up to an hour."""
    row = row_named(archive.things, thing)
    need_hour(hour)
    begun = [beginning for beginning in _beginnings(archive, row) if beginning[0] < hour]
    ends = [first for first, _, _ in begun[1:]] + [hour]
    return [(first, behind, place, mended) for (first, place, mended), behind in zip(begun, ends)]


def stretch_wear(archive, thing, stretch):
    """What a thing wears in a stretch of it."""
    kind = row_named(archive.things, thing)[1]
    first, behind, place, _ = stretch
    if place[0] == "away":
        _, warmth, wet = place
        return times(wear_at(archive, kind, warmth, wet), behind - first)
    _, room, box = place
    return span_wear(archive, kind, room, box, first, behind)


def worn_parts(archive, thing, hour):
    """The parts that a thing has worn at an hour."""
    row = row_named(archive.things, thing)
    counted = counting(stretches(archive, thing, hour))
    return parts_by(row[4], [(stretch, stretch_wear(archive, thing, stretch)) for stretch in counted])


def worn_share(archive, thing, hour):
    """The share of its life that a thing has worn at an hour."""
    return parted(worn_parts(archive, thing, hour), life_of(archive, thing))


def counting(told):
    """Those of a thing's stretches whose wear counts: from the last one on at which it was mended."""
    mended = [place for place, stretch in enumerate(told) if stretch[3] is not None]
    return told[mended[-1]:] if mended else told


def parts_by(parts, worn):
    """The parts that a thing of so many at hour 0 has worn, by pairs of its stretches and their wear."""
    total = (parts, 1)
    for stretch, wear in worn:
        total = added(parts_at_first(total, stretch), wear)
    return total


def parts_at_first(worn, stretch):
    """With how many parts worn a stretch begins, where it was so many ahead of it."""
    mended = stretch[3]
    return worn if mended is None else (mended, 1)


def life_of(archive, thing):
    """The parts that a thing's life has."""
    return row_named(archive.kinds, row_named(archive.things, thing)[1])[1]


def _beginnings(archive, row):
    """(FIRST, PLACE, MENDED) of each stretch of a thing, also of those that begin when nobody asks any more."""
    thing, _, room, box, _ = row
    begun = [(0, ("room", room, box), None)]
    for hour, _, deed in [event for event in archive.events if event[1] == thing]:
        first, place, mended = begun[-1]
        # Behind all events of an hour there is but one stretch.
        if first == hour:
            begun.pop()
        else:
            mended = None
        if deed[0] == "lend":
            _, hours, warmth, wet = deed
            begun.append((hour, ("away", warmth, wet), mended))
            begun.append((hour + hours, place, None))
        elif deed[0] == "mend":
            begun.append((hour, place, deed[1]))
        else:
            begun.append((hour, _place_by(place, deed), mended))
    return begun


def _place_by(place, deed):
    """Where a thing lies behind a deed that moves it or puts it into a box."""
    _, room, box = place
    return ("room", deed[1], box) if deed[0] == "move" else ("room", room, deed[1])
