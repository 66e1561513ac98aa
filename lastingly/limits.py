"""How great the numbers, and how long the lists, of an archive may be."""

MOST_HOUR = 1000000000
MOST_PARTS = 1000000000
MOST_WARMTH = 40
MOST_WET = 100

MOST_POINTS = 5
MOST_HOURLY_PARTS = 1000

MOST_SHELVES = 12
LAST_HOUR_OF_DAY = 23
HOURS_OF_DAY = 24
LAST_DAY_OF_YEAR = 364
DAYS_OF_YEAR = 365
MOST_ROWS_OF_DAY = 24
MOST_SEASONS = 12
MOST_LACKING_ROWS = 8

MOST_KINDS = 6
MOST_EVENTS = 40

# Of a share that is handed in.
MOST_ABOVE = 1000000000
MOST_BELOW = 1000000

# Of each sort of rows, in the order of a text.
SORTS = ("kind", "room", "box", "thing", "at")
MOST_OF_SORTS = (6, 6, 4, 12, 40)


def brought_within(number, least, most):
    """A number, or the one of two bounds that it lies beyond."""
    return min(max(number, least), most)
