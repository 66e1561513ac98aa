"""Archives made by chance, of a seed, that looking lets by."""

from lastingly.archive import Archive
from lastingly.looking import look_through

KINDS = ("wood", "iron", "silk", "bone", "clay", "wool")
ROOMS = ("hall", "loft", "den", "mine", "barn", "yard")
BOXES = ("chest", "case", "bag", "crate")
THINGS = ("bow", "saw", "axe", "urn", "cup", "rug", "flag", "bell", "drum", "harp", "mask", "robe")


def rising(chance, many, most):
    return tuple(sorted(chance.sample(range(most + 1), many)))


def made_kind(chance, name, life):
    warmths = rising(chance, chance.randint(1, 3), 40)
    wets = rising(chance, chance.randint(1, 3), 100)
    table = tuple(tuple(chance.choice((0, 1, 7, chance.randint(0, 1000))) for _ in wets) for _ in warmths)
    return name, chance.randint(1, life), warmths, wets, table


def made_day(chance, rows, gaps):
    hours = (0, *(hour + 1 for hour in rising(chance, chance.randint(0, rows - 1), 22)))
    day = [[hour, chance.randint(0, 40), chance.randint(0, 100)] for hour in hours]
    for row in day:
        if gaps and chance.random() < 0.5:
            for place in chance.choice(((1,), (2,), (1, 2))):
                row[place] = None
            gaps -= 1
    return tuple(tuple(row) for row in day)


def made_seasons(chance, many):
    return tuple((day, chance.randint(-40, 40), chance.randint(-100, 100))
                 for day in rising(chance, chance.randint(0, many), 364))


def made_event(chance, hour, name, rooms, boxes):
    word = chance.choice(("move", "box", "lend", "mend"))
    if word == "move":
        return hour, name, (word, chance.choice(rooms))
    if word == "box":
        return hour, name, (word, chance.choice(("", *boxes)))
    if word == "lend":
        return hour, name, (word, chance.randint(1, 40), chance.randint(0, 40), chance.randint(0, 100))
    return hour, name, (word, chance.randint(0, 3000))


def made_events(chance, many, things, rooms, boxes, step):
    """Events at rising hours, none while its thing is away."""
    events, hour, back = [], 0, {}
    for _ in range(many if things else 0):
        hour += chance.choice((0, 0, 1, chance.randint(0, step)))
        name, kind, *_ = chance.choice(things)
        if hour < back.get(name, 0):
            continue
        event = made_event(chance, hour, name, [room[0] for room in rooms if may(room, kind)], boxes)
        if event[2][0] == "lend":
            back[name] = hour + event[2][1]
        events.append(event)
    return events


def may(room, kind):
    return not room[2] or kind in room[2]


def made(chance, kinds=2, rooms=3, things=3, events=12, gaps=0, life=100000, step=30, shelves=12):
    """An archive of up to so many of each; each room with up to so many gaps."""
    kind_rows = [made_kind(chance, name, life) for name in KINDS[:chance.randint(1, kinds)]]
    names = [kind[0] for kind in kind_rows]
    # The first room takes all, so that each thing lies somewhere.
    room_rows = [(name, chance.randint(0, shelves),
                  () if at == 0 else tuple(chance.sample(names, chance.randint(0, len(names)))),
                  made_day(chance, 4, gaps), made_seasons(chance, 3))
                 for at, name in enumerate(ROOMS[:chance.randint(1, rooms)])]
    box_rows = [(name, *sorted(chance.choices(range(101), k=2))) for name in BOXES[:chance.randint(0, 2)]]
    boxes = [box[0] for box in box_rows]
    thing_rows = []
    for name in THINGS[:chance.randint(min(1, things), things)]:
        kind = chance.choice(names)
        room = chance.choice([room[0] for room in room_rows if may(room, kind)])
        thing_rows.append((name, kind, room, chance.choice(("", *boxes)), chance.randint(0, life)))
    event_rows = made_events(chance, events, thing_rows, room_rows, boxes, step)
    archive = Archive(kind_rows, room_rows, box_rows, thing_rows, event_rows)
    look_through(archive)
    return archive
