"""Finding rows by their names."""

from lastingly.errors import OutOfPlace


def row_named(rows, name):
    """The row of a name, of anything, among rows that begin with theirs."""
    if isinstance(name, str):
        for row in rows:
            if row[0] == name:
                return row
    raise OutOfPlace("there is none of that name")
