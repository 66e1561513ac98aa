"""An archive, and an event, as texts."""


def archive_text(archive):
    """The text of an archive: a row for each kind, room, box, thing and event."""
    rows = [_kind_text(kind) for kind in archive.kinds]
    rows.extend([_room_text(room) for room in archive.rooms])
    rows.extend([_box_text(box) for box in archive.boxes])
    rows.extend([_thing_text(thing) for thing in archive.things])
    rows.extend([event_text(event) for event in archive.events])
    return "\n".join(rows)


def event_text(event):
    """The row of an event."""
    hour, thing, deed = event
    told = " ".join([_told_or_none(part) for part in deed])
    return f"at {hour} {thing} {told}"


def _kind_text(kind):
    name, life, warmths, wets, lines = kind
    table = " / ".join([_numbers_text(parts) for parts in lines])
    return f"kind {name} {life} : {_numbers_text(warmths)} : {_numbers_text(wets)} : {table}"


def _room_text(room):
    name, shelves, kinds, day, seasons = room
    taken = "+".join(kinds) if kinds else "any"
    shifts = _rows_text(seasons) if seasons else "none"
    return f"room {name} {shelves} {taken} : {_rows_text(day)} : {shifts}"


def _box_text(box):
    name, least, greatest = box
    return f"box {name} {least} {greatest}"


def _thing_text(thing):
    name, kind, room, box, parts = thing
    return f"thing {name} {kind} {room} {_told_or_none(box)} {parts}"


def _rows_text(rows):
    return " , ".join([_numbers_text(row) for row in rows])


def _numbers_text(numbers):
    return " ".join(["?" if number is None else str(number) for number in numbers])


def _told_or_none(part):
    # No box is an empty text, which would leave no word in a row.
    return "none" if part == "" else str(part)
