"""Reading an archive, and an event, of a text. Rows are looked at by themselves."""

from lastingly.archive import Archive
from lastingly.errors import BadRow
from lastingly.limits import (
    LAST_DAY_OF_YEAR,
    LAST_HOUR_OF_DAY,
    MOST_HOUR,
    MOST_HOURLY_PARTS,
    MOST_KINDS,
    MOST_OF_SORTS,
    MOST_PARTS,
    MOST_POINTS,
    MOST_ROWS_OF_DAY,
    MOST_SEASONS,
    MOST_SHELVES,
    MOST_WARMTH,
    MOST_WET,
    SORTS,
)
from lastingly.row import Row


def read_archive(text):
    """The archive that a text tells."""
    if not isinstance(text, str):
        raise BadRow(1, 0)
    lines = text.split("\n")
    found = [[] for sort in SORTS]
    latest = 0
    for number, line in enumerate(lines, start=1):
        row = Row(line, number)
        latest = _place_of_sort(row, latest, found)
        read = READERS[latest]
        found[latest].append(read(row))
        row.need_end()
    kinds, rooms, boxes, things, events = found
    if not kinds or not rooms:
        raise BadRow(len(lines) + 1, 0)
    return Archive(kinds, rooms, boxes, things, events)


def read_event(row, number):
    """The event that a row tells, refused by that number of the row."""
    words = Row(row, number)
    words.need_word("at")
    event = _read_event(words)
    words.need_end()
    return event


def _place_of_sort(row, latest, found):
    """The place of the row's sort among the sorts, which is refused too late and one too many."""
    sort = row.next_word()
    if sort not in SORTS:
        row.refuse()
    place = SORTS.index(sort)
    if place < latest or len(found[place]) == MOST_OF_SORTS[place]:
        raise BadRow(row.number, 0)
    row.need_word(sort)
    return place


def _read_kind(row):
    name = row.need_name()
    life = row.need_number(1, MOST_PARTS)
    row.need_word(":")
    warmths = _read_points(row, MOST_WARMTH)
    row.need_word(":")
    wets = _read_points(row, MOST_WET)
    row.need_word(":")
    return name, life, warmths, wets, _read_table(row, warmths, wets)


def _read_points(row, most):
    """Rising numbers, up to the most, to the sign behind them."""
    points = [row.need_number(0, most)]
    while len(points) < MOST_POINTS and row.next_word() != ":":
        points.append(row.need_number(points[-1] + 1, most))
    return tuple(points)


def _read_table(row, warmths, wets):
    """A line of parts for each warmth, in it one for each wet."""
    lines = []
    for warmth in warmths:
        if lines:
            row.need_word("/")
        lines.append(tuple([row.need_number(0, MOST_HOURLY_PARTS) for wet in wets]))
    return tuple(lines)


def _read_room(row):
    name = row.need_name()
    shelves = row.need_number(0, MOST_SHELVES)
    kinds = () if row.passes("any") else row.need_names(MOST_KINDS)
    row.need_word(":")
    day = _read_day(row)
    row.need_word(":")
    seasons = () if row.passes("none") else _read_seasons(row)
    return name, shelves, kinds, day, seasons


def _read_day(row):
    rows = [_read_row_of_day(row, 0, 0)]
    while len(rows) < MOST_ROWS_OF_DAY and row.passes(","):
        rows.append(_read_row_of_day(row, rows[-1][0] + 1, LAST_HOUR_OF_DAY))
    return tuple(rows)


def _read_row_of_day(row, least, most):
    hour = row.need_number(least, most)
    warmth = _read_reading(row, MOST_WARMTH)
    return hour, warmth, _read_reading(row, MOST_WET)


def _read_reading(row, most):
    return None if row.passes("?") else row.need_number(0, most)


def _read_seasons(row):
    rows = [_read_season(row, 0)]
    while len(rows) < MOST_SEASONS and row.passes(","):
        rows.append(_read_season(row, rows[-1][0] + 1))
    return tuple(rows)


def _read_season(row, least):
    day = row.need_number(least, LAST_DAY_OF_YEAR)
    warmth = row.need_number(-MOST_WARMTH, MOST_WARMTH)
    return day, warmth, row.need_number(-MOST_WET, MOST_WET)


def _read_box(row):
    name = row.need_name()
    least = row.need_number(0, MOST_WET)
    return name, least, row.need_number(least, MOST_WET)


def _read_thing(row):
    name = row.need_name()
    kind = row.need_name()
    room = row.need_name()
    box = _read_name_of_box(row)
    return name, kind, room, box, row.need_number(0, MOST_PARTS)


def _read_name_of_box(row):
    return "" if row.passes("none") else row.need_name()


def _read_event(row):
    hour = row.need_number(0, MOST_HOUR)
    thing = row.need_name()
    return hour, thing, _read_deed(row)


def _read_deed(row):
    if row.passes("move"):
        return "move", row.need_name()
    if row.passes("box"):
        return "box", _read_name_of_box(row)
    if row.passes("lend"):
        hours = row.need_number(1, MOST_HOUR)
        warmth = row.need_number(0, MOST_WARMTH)
        return "lend", hours, warmth, row.need_number(0, MOST_WET)
    row.need_word("mend")
    return "mend", row.need_number(0, MOST_PARTS)


# By the places of the sorts.
READERS = (_read_kind, _read_room, _read_box, _read_thing, _read_event)
