"""Chains of moves, which lead from one layout to another one."""

from lastingly.errors import OutOfPlace
from lastingly.named import row_named
from lastingly.plan import plan_for
from lastingly.shelves import may_lie, rooms_for, shelves_of


def chain_done(archive, layout, chain):
    """The layout that a chain gives."""
    _need_layout(archive, layout)
    _need_chain(archive, layout, chain)
    goals = dict(chain)
    return [goals.get(thing[0], room) for thing, room in zip(archive.things, layout)]


def better_chain(archive, first, behind, layout):
    """A chain that betters a layout in a span, or None where it is the best one."""
    best = _best(archive, first, behind, layout)
    return None if layout == best else _step(archive, layout, best)


def steps_to_best(archive, first, behind, layout):
    """Chains that lead from a layout to the best one of a span, each bettering what is there behind those ahead."""
    best = _best(archive, first, behind, layout)
    steps = []
    now = layout
    while now != best:
        chain = _step(archive, now, best)
        steps.append(chain)
        now = chain_done(archive, now, chain)
    return steps


def hinders(archive, names):
    """How many shelves the rooms have in which some of the things may lie, and whether the things are more."""
    if not isinstance(names, list):
        raise OutOfPlace("things are told as a list of names")
    things = [row_named(archive.things, name) for name in names]
    _need_unlike(names)
    shelves = shelves_of(rooms_for(archive, things))
    return shelves, shelves < len(things)


def _best(archive, first, behind, layout):
    _need_layout(archive, layout)
    return plan_for(archive, first, behind)[0]


def _step(archive, layout, best):
    """A chain that betters a layout, of moves of things to where they lie in the best one.

    It betters the layout, as the best one without these moves is a layout, too, and so a worse one:
    what moves count for does not hang on where other things lie.
    """
    goals = {}
    for place, (room, goal) in enumerate(zip(layout, best)):
        # One thing of each room is enough: a chain leaves no room twice.
        if room != goal and room not in goals:
            goals[room] = (archive.things[place][0], goal)
    room = _room_to_leave(goals, layout, best)
    rooms = [room]
    chain = []
    while True:
        thing, room = goals[room]
        chain.append((thing, room))
        if room in rooms:
            return chain[rooms.index(room):]
        if layout.count(room) < best.count(room):
            return chain
        rooms.append(room)


def _room_to_leave(goals, layout, best):
    """A room that more things leave than come to, or else any that one leaves."""
    for room in goals:
        if layout.count(room) > best.count(room):
            return room
    return list(goals)[0]


def _need_layout(archive, layout):
    if not isinstance(layout, list) or len(layout) != len(archive.things):
        raise OutOfPlace("a layout is a list of a room for each thing")
    for thing, name in zip(archive.things, layout):
        _need_place(archive, thing, name)
    for name, shelves, _, _, _ in archive.rooms:
        if layout.count(name) > shelves:
            raise OutOfPlace("a room takes so many things as it has shelves")


def _need_chain(archive, layout, chain):
    if not isinstance(chain, list) or not chain or not all([_is_pair(move) for move in chain]):
        raise OutOfPlace("a chain is a list of moves (THING, ROOM)")
    lies_in = {}
    for thing, room in zip(archive.things, layout):
        lies_in[thing[0]] = room
    for name, goal in chain:
        _need_place(archive, row_named(archive.things, name), goal)
        if lies_in[name] == goal:
            raise OutOfPlace("each thing of a chain goes to another room")
    _need_unlike([name for name, _ in chain])
    _need_unlike([goal for _, goal in chain])
    for (_, goal), (name, _) in zip(chain, chain[1:]):
        if lies_in[name] != goal:
            raise OutOfPlace("each thing makes way for the one ahead")
    _need_end(archive, layout, chain[-1][1], lies_in[chain[0][0]])


def _need_end(archive, layout, goal, left):
    shelves = row_named(archive.rooms, goal)[1]
    if goal != left and layout.count(goal) >= shelves:
        raise OutOfPlace("the last thing goes to a free shelf")


def _need_place(archive, thing, name):
    """Refuses what is no name of a room in which a thing may lie, of anything."""
    if not may_lie(row_named(archive.rooms, name), thing[1]):
        raise OutOfPlace("the thing cannot lie there")


def _need_unlike(names):
    if len(set(names)) < len(names):
        raise OutOfPlace("a name is there twice")


def _is_pair(thing):
    return isinstance(thing, tuple) and len(thing) == 2
