"""Where things had best lie for a span."""

from math import lcm

from lastingly.climate import lacking_rows, span_wear
from lastingly.errors import Lacking, NoPlan, OutOfPlace
from lastingly.fraction import added, parted
from lastingly.limits import MOST_HOUR
from lastingly.places import cheapest_places
from lastingly.shelves import hindering_things, may_lie, rooms_for, takes
from lastingly.story import life_of, worn_parts
from lastingly.words import is_among


def end_shares(archive, first, behind):
    """For each thing a list of its end share in each room, None where it cannot lie there."""
    _need_span(first, behind)
    for room in archive.rooms:
        if any([takes(room, thing[1]) for thing in archive.things]) and lacking_rows(archive, room[0]):
            raise Lacking(room[0])
    return [_shares_of(archive, thing, first, behind) for thing in archive.things]


def plan_for(archive, first, behind):
    """The best layout of a span: the rooms' names, thing by thing, and their end shares."""
    shares = end_shares(archive, first, behind)
    places = cheapest_places(_costs(shares), [room[1] for room in archive.rooms])
    if places is None:
        things = hindering_things(archive)
        raise NoPlan([thing[0] for thing in things], [room[0] for room in rooms_for(archive, things)])
    return [archive.rooms[place][0] for place in places], [row[place] for row, place in zip(shares, places)]


def _need_span(first, behind):
    if not is_among(first, 0, MOST_HOUR) or not is_among(behind, first + 1, MOST_HOUR):
        raise OutOfPlace("a span goes from an hour to a later one")


def _shares_of(archive, thing, first, behind):
    name, kind, _, _, _ = thing
    ahead = worn_parts(archive, name, first)
    shares = []
    for room in archive.rooms:
        if may_lie(room, kind):
            worn = added(ahead, span_wear(archive, kind, room[0], "", first, behind))
            shares.append(parted(worn, life_of(archive, name)))
        else:
            shares.append(None)
    return shares


def _costs(shares):
    """Costs of the things in the rooms: of two layouts the better one costs less in all, and no two cost the same."""
    units = []
    unit = 1
    for row in shares:
        units.append(unit)
        unit = unit * len(row)
    # The first thing's room tells more than those of all others together, and any share more than all rooms.
    units.reverse()
    weights = _weights(shares)
    return [[None if share is None else weights[share] * unit + place * own for place, share in enumerate(row)]
            for row, own in zip(shares, units)]


def _weights(shares):
    """For each share a number that is more than those of all things together would be at lesser shares."""
    told = [share for row in shares for share in row if share is not None]
    common = 1
    for _, below in told:
        common = lcm(common, below)
    weights = {}
    weight = 1
    for whole in sorted(set([above * (common // below) for above, below in told])):
        weights[whole] = weight
        weight = weight * (len(shares) + 1)
    return {(above, below): weights[above * (common // below)] for above, below in told}
