"""What the document tells, reckoned hour by hour by its own words: slow, and apart from the program."""

from fractions import Fraction


def pair(fraction):
    return fraction.numerator, fraction.denominator


def row_of(rows, name):
    return next(row for row in rows if row[0] == name)


def between(points, worths, at):
    """What the worths at points come to along one line."""
    at = min(max(at, points[0]), points[-1])
    for place, point in enumerate(points):
        if point == at:
            return Fraction(worths[place])
    place = max(place for place, point in enumerate(points) if point < at)
    u, v, p, q = points[place], points[place + 1], worths[place], worths[place + 1]
    return p + (q - p) * Fraction(at - u, v - u)


def table_wear(kind, warmth, wet):
    """What a kind, a row of its archive, wears."""
    _, _, warmths, wets, lines = kind
    return between(warmths, [between(wets, parts, wet) for parts in lines], warmth)


def lacks(room):
    return any(None in row for row in room[3])


def reading(room, hour):
    """What is read in a room, a row of its archive, at an hour; a room that lacks where it tells all."""
    _, _, _, day, seasons = room
    _, warmth, wet = [row for row in day if row[0] <= hour % 24][-1]
    warmer = wetter = 0
    if seasons:
        begun = [row for row in seasons if row[0] <= hour // 24 % 365]
        _, warmer, wetter = begun[-1] if begun else seasons[-1]
    return min(max(warmth + warmer, 0), 40), min(max(wet + wetter, 0), 100)


def room_wear(archive, kind, room, box, hour):
    """What a kind wears at an hour, all by names."""
    kinds, rooms, boxes, _, _ = archive.told()
    warmth, wet = reading(row_of(rooms, room), hour)
    if box:
        _, least, greatest = row_of(boxes, box)
        wet = min(max(wet, least), greatest)
    return table_wear(row_of(kinds, kind), warmth, wet)


def span(archive, kind, room, box, first, behind):
    return sum((room_wear(archive, kind, room, box, hour) for hour in range(first, behind)), Fraction(0))


def life(archive, thing):
    kinds, _, _, things, _ = archive.told()
    return row_of(kinds, row_of(things, thing)[1])[1]


def hours_of(archive, thing, behind):
    """For each hour below one: (whether a stretch begins there, the place, the parts to which it was mended there)."""
    _, _, _, things, events = archive.told()
    _, _, room, box, _ = row_of(things, thing)
    lent = None
    found = []
    for hour in range(behind):
        begins = hour == 0
        mended = None
        if lent is not None and lent[0] == hour:
            lent = None
            begins = True
        for _, _, deed in [event for event in events if event[:2] == (hour, thing)]:
            begins = True
            if deed[0] == "move":
                room = deed[1]
            elif deed[0] == "box":
                box = deed[1]
            elif deed[0] == "lend":
                lent = (hour + deed[1], *deed[2:])
            else:
                mended = deed[1]
        found.append((begins, ("room", room, box) if lent is None else ("away", *lent[1:]), mended))
    return found


def stretches_of(archive, thing, behind):
    found = []
    for hour, (begins, place, mended) in enumerate(hours_of(archive, thing, behind)):
        if begins:
            found.append((hour, hour + 1, place, mended))
        else:
            found[-1] = (found[-1][0], hour + 1, *found[-1][2:])
    return found


def place_wear(archive, thing, place, hour):
    """What a thing wears at a place, in an hour."""
    kinds, _, _, things, _ = archive.told()
    kind = row_of(things, thing)[1]
    if place[0] == "away":
        return table_wear(row_of(kinds, kind), *place[1:])
    return room_wear(archive, kind, *place[1:], hour)


def parts_by_hours(archive, thing, behind):
    """The parts that a thing has worn at each hour from 0 to the told one."""
    parts = [Fraction(row_of(archive.told()[3], thing)[4])]
    for hour, (_, place, mended) in enumerate(hours_of(archive, thing, behind)):
        worn = parts[-1] if mended is None else Fraction(mended)
        parts.append(worn + place_wear(archive, thing, place, hour))
    return parts


def shares_by_hours(archive, thing, behind):
    return [parts / life(archive, thing) for parts in parts_by_hours(archive, thing, behind)]
