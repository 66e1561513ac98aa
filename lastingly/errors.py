"""The refusals of the program."""


class ArchiveError(ValueError):
    """Any refusal."""


class BadRow(ArchiveError):
    """A row of a text cannot stand: the row, and the word in it (0: the row itself)."""

    def __init__(self, row, word):
        super().__init__(f"row {row} cannot stand, by its word {word}")
        self.row = row
        self.word = word


class BadArchive(ArchiveError):
    """An archive cannot stand: what is wrong, and the name at which it is."""

    def __init__(self, what, name):
        super().__init__(f"the archive cannot stand: {what} at {name}")
        self.what = what
        self.name = name


class Lacking(ArchiveError):
    """A room whose readings would count lacks some of them."""

    def __init__(self, room):
        super().__init__(f"readings lack in {room}")
        self.room = room


class NoPlan(ArchiveError):
    """There is no layout: the things that hinder, and the rooms that are too small for them."""

    def __init__(self, things, rooms):
        super().__init__(f"no layout has {things} in {rooms}")
        # Copies: what becomes of the lists later must not change the refusal.
        self.things = list(things)
        self.rooms = list(rooms)


class OutOfPlace(ArchiveError):
    """What is handed in is not there, or cannot stand where it is handed in."""
