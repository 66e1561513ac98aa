"""How great the numbers, and how long the lists, of an archive may be."""

MOST_HOUR = 1000000000
MOST_PARTS = 1000000000
MOST_WARMTH = 40
MOST_WET = 100

MOST_POINTS = 5
MOST_HOURLY_PARTS = 1000

MOST_SHELVES = 12
LAST_HOUR_OF_DAY = 23
LAST_DAY_OF_YEAR = 364
MOST_ROWS_OF_DAY = 24
MOST_SEASONS = 12
MOST_LACKING_ROWS = 8

MOST_KINDS = 6

# Of each sort of rows, in the order of a text.
SORTS = ("kind", "room", "box", "thing", "at")
MOST_OF_SORTS = (6, 6, 4, 12, 40)
