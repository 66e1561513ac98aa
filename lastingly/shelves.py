"""Which things may lie in which rooms, and whether these have shelves enough."""

from itertools import combinations


def takes(room, kind):
    """Whether things of a kind may lie in a room, were there a shelf."""
    kinds = room[2]
    return len(kinds) == 0 or kind in kinds


def may_lie(room, kind):
    """Whether a room takes a kind and has shelves."""
    return room[1] > 0 and takes(room, kind)


def rooms_for(archive, things):
    """The rooms in which some of the things may lie."""
    return [room for room in archive.rooms if any([may_lie(room, thing[1]) for thing in things])]


def shelves_of(rooms):
    """How many shelves some rooms have, all together."""
    return sum([room[1] for room in rooms])


def hindering_things(archive):
    """The least set of things, of as few the first one, that are more than the shelves of their rooms; or none."""
    things = list(archive.things)
    for many in range(1, len(things) + 1):
        for some in combinations(things, many):
            if shelves_of(rooms_for(archive, some)) < many:
                return list(some)
    return []
