"""All layouts and chains of small archives, one by one, by the document's own words."""

import itertools
from fractions import Fraction

from lastingly.archive import Archive
from lastingly.story import worn_share
from made import may


def may_lie(room, thing):
    return room[1] > 0 and may(room, thing[1])


def all_layouts(archive):
    """Each layout as a list of rooms' names."""
    _, rooms, _, things, _ = archive.told()
    by_thing = [[room[0] for room in rooms if may_lie(room, thing)] for thing in things]
    shelves = {room[0]: room[1] for room in rooms}
    return [list(names) for names in itertools.product(*by_thing)
            if all(names.count(name) <= shelves[name] for name in names)]


def lying_there(archive, thing, room, first):
    """The archive in which a thing lies in a room, in no box, from an hour on, whatever is told of it behind."""
    kinds, rooms, boxes, things, events = archive.told()
    kept = []
    for hour, name, deed in events:
        if name == thing and hour < first:
            if deed[0] == "lend":
                deed = ("lend", min(deed[1], first - hour), *deed[2:])
            kept.append((hour, name, deed))
    return Archive(kinds, rooms, boxes, things, [*kept, (first, thing, ("move", room)), (first, thing, ("box", ""))])


def told_end_share(archive, thing, room, first, behind):
    """The end share of a thing in a room, by the story of an archive with the moves told as events."""
    return worn_share(lying_there(archive, thing, room, first), thing, behind)


def shares_in(archive, first, behind):
    """For each thing the end share in each room by its name, where it may lie there."""
    _, rooms, _, things, _ = archive.told()
    return [{room[0]: Fraction(*told_end_share(archive, thing[0], room[0], first, behind))
             for room in rooms if may_lie(room, thing)} for thing in things]


def rank(archive, shares, layout):
    """Of two layouts the better one has the lesser rank."""
    names = [room[0] for room in archive.told()[1]]
    return (sorted((by_room[name] for by_room, name in zip(shares, layout)), reverse=True),
            [names.index(name) for name in layout])


def after(archive, layout, chain):
    """The layout behind the moves of a chain."""
    names = [thing[0] for thing in archive.told()[3]]
    lies_in = dict(zip(names, layout))
    for thing, room in chain:
        lies_in[thing] = room
    return [lies_in[name] for name in names]


def is_chain(archive, layout, chain):
    """Whether moves, of things and rooms that are there, are a chain of a layout."""
    _, rooms, _, things, _ = archive.told()
    rows = {thing[0]: thing for thing in things}
    lies_in = dict(zip(rows, layout))
    by_name = {room[0]: room for room in rooms}
    if not chain or len({thing for thing, _ in chain}) < len(chain) or len({room for _, room in chain}) < len(chain):
        return False
    for thing, room in chain:
        if room == lies_in[thing] or not may_lie(by_name[room], rows[thing]):
            return False
    for ahead, move in zip(chain, chain[1:]):
        if lies_in[move[0]] != ahead[1]:
            return False
    last = chain[-1][1]
    return last == lies_in[chain[0][0]] or layout.count(last) < by_name[last][1]


def all_chains(archive, layout):
    """Each chain of a layout."""
    _, rooms, _, things, _ = archive.told()
    moves = [(thing[0], room[0]) for thing in things for room in rooms]
    found, ahead = [], [[]]
    while ahead:
        chain = ahead.pop()
        if is_chain(archive, layout, chain):
            found.append(chain)
        if len(chain) < len(rooms):
            for thing, room in moves:
                if not chain or layout[[row[0] for row in things].index(thing)] == chain[-1][1]:
                    if room not in [told for _, told in chain] and thing not in [told for told, _ in chain]:
                        ahead.append([*chain, (thing, room)])
    return found
