"""Hours: what are hours, and which rows of a room's day and seasons they fall into."""

from lastingly.errors import OutOfPlace
from lastingly.limits import DAYS_OF_YEAR, HOURS_OF_DAY, MOST_HOUR, brought_within
from lastingly.words import is_among

# For a room without seasons: all year long nothing is shifted.
ALL_YEAR = ((0, 0, 0),)


def need_hour(hour):
    """Refuses what is no hour, of anything."""
    if not is_among(hour, 0, MOST_HOUR):
        raise OutOfPlace("an hour goes from 0 to 1000000000")


def row_at(room, hour):
    """The row of a room's day at an hour."""
    return _last_begun(room[3], hour % HOURS_OF_DAY)


def season_at(room, hour):
    """The row of a room's seasons at an hour."""
    return _last_begun(_seasons_of(room), hour // HOURS_OF_DAY % DAYS_OF_YEAR)


def hours_by_rows(room, first, behind):
    """The hours of a span as (ROW, SEASON, HOURS), for each row of a room's day and of its seasons that has some."""
    found = []
    for season, days in _ranges(_seasons_of(room), DAYS_OF_YEAR):
        for row, hours in _ranges(room[3], HOURS_OF_DAY):
            many = _hours_below(behind, hours, days) - _hours_below(first, hours, days)
            if many > 0:
                found.append((row, season, many))
    return found


def _seasons_of(room):
    return room[4] if room[4] else ALL_YEAR


def _last_begun(rows, at):
    """The last row that begins at a number or ahead of it; without such it goes on from the last one of all."""
    begun = [row for row in rows if row[0] <= at]
    return begun[-1] if begun else rows[-1]


def _ranges(rows, most):
    """Pairs of a row and a range (FIRST, BEHIND) of numbers below the most at which it is the last one begun."""
    ends = [row[0] for row in rows[1:]] + [most]
    ranges = [(row, (row[0], end)) for row, end in zip(rows, ends)]
    # Ahead of the first row, where there is anything, the last one goes on.
    return ranges + [(rows[-1], (0, rows[0][0]))]


def _hours_below(hour, hours, days):
    """How many hours below an hour fall into a range of the hours of a day, on a range of the days of a year."""
    all_days, hour_of_day = divmod(hour, HOURS_OF_DAY)
    years, day_of_year = divmod(all_days, DAYS_OF_YEAR)
    whole_days = years * _length(days) + _below(day_of_year, days)
    many = whole_days * _length(hours)
    if days[0] <= day_of_year < days[1]:
        many += _below(hour_of_day, hours)
    return many


def _length(bounds):
    return bounds[1] - bounds[0]


def _below(number, bounds):
    """How many numbers of a range (FIRST, BEHIND) lie below a number."""
    return brought_within(number - bounds[0], 0, _length(bounds))
