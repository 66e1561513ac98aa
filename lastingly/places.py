"""Places for things, of least cost in all, by shelves.

Costs are a list for each thing, in it a number for each room, or None where the thing cannot lie there.
"""


def cheapest_places(costs, shelves):
    """The rooms' numbers, thing by thing, of least cost in all; None where the shelves are not enough.

    No two ways to place the things may cost the same.
    """
    places = []
    # Where so many things lie as cheaply as they can, one more lies so behind the cheapest row of
    # moves that lets it in: each thing of it makes way for the one ahead.
    for _ in costs:
        reached, movers = _ways_in(costs, places)
        room = _cheapest_free(reached, [many - places.count(at) for at, many in enumerate(shelves)])
        if room is None:
            return None
        places = _moved(places, movers, room)
    return places


def _ways_in(costs, places):
    """For each room what it costs at least that the next thing comes in and one comes to that room, and which one.

    The cost is None where no moves lead there.
    """
    new = len(places)
    reached = list(costs[new])
    movers = [new for _ in reached]
    # No row of moves that ends where it began makes it cheaper, so that this comes to an end.
    changed = True
    while changed:
        changed = False
        for thing, room in enumerate(places):
            for goal, cost in enumerate(costs[thing]):
                if reached[room] is None or cost is None:
                    continue
                total = reached[room] + cost - costs[thing][room]
                if reached[goal] is None or total < reached[goal]:
                    reached[goal] = total
                    movers[goal] = thing
                    changed = True
    return reached, movers


def _cheapest_free(reached, free):
    """The room with a free shelf that is reached most cheaply, or None."""
    best = None
    for room, cost in enumerate(reached):
        if free[room] > 0 and cost is not None and (best is None or cost < reached[best]):
            best = room
    return best


def _moved(places, movers, room):
    """The places with one thing more, behind the moves that bring one to a room."""
    moved = list(places)
    while movers[room] < len(places):
        thing = movers[room]
        moved[thing] = room
        room = places[thing]
    return moved + [room]
