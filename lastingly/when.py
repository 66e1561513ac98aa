"""When things come to shares of their lives."""

from math import gcd

from lastingly.errors import OutOfPlace
from lastingly.fraction import added, is_less
from lastingly.hours import need_hour
from lastingly.limits import MOST_ABOVE, MOST_BELOW, MOST_HOUR
from lastingly.named import row_named
from lastingly.story import life_of, parts_at_first, stretch_wear, stretches, worn_share
from lastingly.words import is_among


def first_hour(archive, thing, share):
    """The first hour at which a thing's share is the told one or more, or None."""
    parts = row_named(archive.things, thing)[4]
    needed = _parts_needed(archive, thing, share)
    worn = (parts, 1)
    if not is_less(worn, needed):
        return 0
    for stretch in stretches(archive, thing, MOST_HOUR):
        worn = parts_at_first(worn, stretch)
        hour = _hour_within(archive, thing, stretch, worn, needed)
        if hour <= stretch[1]:
            return hour
        worn = added(worn, stretch_wear(archive, thing, stretch))
    return None


def last_hour(archive, thing, share):
    """The last hour at which a thing's share is below the told one, or None."""
    parts = row_named(archive.things, thing)[4]
    needed = _parts_needed(archive, thing, share)
    worn = (parts, 1)
    begun = []
    for stretch in stretches(archive, thing, MOST_HOUR):
        worn = parts_at_first(worn, stretch)
        begun.append((stretch, worn))
        worn = added(worn, stretch_wear(archive, thing, stretch))
    for stretch, at_first in reversed(begun):
        hour = _hour_within(archive, thing, stretch, at_first, needed)
        if hour > stretch[0] + 1:
            return hour - 1
    return 0 if is_less((parts, 1), needed) else None


def all_hours(archive, share):
    """Each thing with the first hour at which its share is the told one or more, or None."""
    _need_share(share)
    return [(row[0], first_hour(archive, row[0], share)) for row in archive.things]


def worst_thing(archive, hour):
    """The thing with the greatest share at an hour, or None where there is no thing."""
    need_hour(hour)
    worst = None
    greatest = (0, 1)
    for row in archive.things:
        share = worn_share(archive, row[0], hour)
        if worst is None or is_less(greatest, share):
            worst = row[0]
            greatest = share
    return worst


def _parts_needed(archive, thing, share):
    """The parts of which a thing has worn a share of its life."""
    _need_share(share)
    return share[0] * life_of(archive, thing), share[1]


def _need_share(share):
    if not _is_share(share):
        raise OutOfPlace("a share is a fraction in lowest terms")


def _is_share(thing):
    """Whether a thing, of any kind, is a share that may be handed in."""
    if not isinstance(thing, tuple) or len(thing) != 2:
        return False
    above, below = thing
    return is_among(above, 0, MOST_ABOVE) and is_among(below, 1, MOST_BELOW) and gcd(above, below) == 1


def _hour_within(archive, thing, stretch, worn, needed):
    """The first hour behind a stretch's first one at which so many parts are worn, or else the one behind its end.

    Worn is what it begins with.
    """
    first, behind, place, mended = stretch
    least, most = first + 1, behind + 1
    # Parts never get fewer within a stretch, so that halving what is left finds the hour.
    while least < most:
        # Its end is looked at first: most stretches do not come so far.
        middle = behind if most > behind else (least + most) // 2
        wear = stretch_wear(archive, thing, (first, middle, place, mended))
        if is_less(added(worn, wear), needed):
            least = middle + 1
        else:
            most = middle
    return least
