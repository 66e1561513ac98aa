"""Keepers and their deeds, against keepers made anew and the stretches ahead and behind."""

import random
import unittest

from lastingly import keeper
from lastingly.archive import Archive
from lastingly.errors import ArchiveError, BadArchive, Lacking, OutOfPlace
from lastingly.keeper import Keeper
from lastingly.looking import look_through
from lastingly.story import stretches, worn_share
from made import made, made_event, may
from reckoning import pair, row_of, span, stretches_of

LAST = 1000000000
KINDS = [
    ("wood", 1000, (10, 20), (20, 60), ((5, 8), (11, 6))),
    ("iron", 60, (15,), (50,), ((7,),)),
]
ROOMS = [
    ("hall", 3, (), ((0, 18, 50), (6, 20, 40)), ((10, -3, 4),)),
    ("loft", 0, ("wood",), ((0, 12, 34),), ()),
    ("den", 1, (), ((0, 18, 50), (12, None, 60)), ()),
    ("cave", 1, (), ((0, None, None),), ()),
]
BOXES = [("chest", 40, 60)]
THINGS = [("bow", "wood", "hall", "", 7), ("saw", "iron", "hall", "chest", 0), ("urn", "wood", "loft", "", 3)]
EVENTS = [(3, "bow", ("move", "loft")), (5, "saw", ("lend", 10, 1, 1)), (8, "bow", ("mend", 100)),
          (30, "bow", ("move", "hall"))]
NO_NUMBERS = (None, True, False, "", "1", b"1", 1.0, [1], (1,), {}, object())
NO_NAMES = ("x", "", "Hall", None, True, 0, 1, b"hall", ["hall"], ("hall",), {}, object())


def archive_of(events=None, rooms=None):
    return Archive(KINDS, ROOMS if rooms is None else rooms, BOXES, THINGS, EVENTS if events is None else events)


def state(held):
    return held.its_archive().told(), held.its_hour(), held.all_shares()


def told_anew(ahead, behind):
    """The pairs of the document, of an archive and an hour ahead of a deed and behind it."""
    (archive, hour), (other, other_hour) = ahead, behind
    found = []
    for name, kind, *_ in other.told()[3]:
        stood = [stretch[:3] for stretch in stretches_of(archive, name, hour)]
        for stretch in stretches_of(other, name, other_hour):
            place = stretch[2]
            if (stretch[:3] not in stood or row_of(archive.told()[0], kind) != row_of(other.told()[0], kind)
                    or place[0] == "room" and row_of(archive.told()[1], place[1]) != row_of(other.told()[1], place[1])):
                found.append((name, stretch[0]))
    return found


class Made(unittest.TestCase):
    def test_what_it_tells(self):
        archive = archive_of()
        for hour in (0, 1, 5, 40, 5000, LAST):
            held = Keeper(archive, hour)
            self.assertEqual(held.its_archive().told(), archive.told())
            self.assertIs(type(held.its_archive()), Archive)
            self.assertEqual(held.its_hour(), hour)
            shares = [(thing[0], worn_share(archive, thing[0], hour)) for thing in THINGS]
            self.assertEqual(held.all_shares(), shares)
            for thing, share in shares:
                self.assertEqual(held.share_of(thing), share)

    def test_without_things(self):
        held = Keeper(Archive(KINDS, ROOMS, [], [], []), 5)
        self.assertEqual(held.all_shares(), [])
        self.assertEqual(held.set_hour(9), [])
        self.assertEqual(held.set_wear("wood", 1, 1, 0), [])

    def test_no_hours(self):
        for archive in (archive_of(), archive_of([(0, "bow", ("move", "den"))])):
            for hour in (-1, LAST + 1, *NO_NUMBERS):
                with self.assertRaises(OutOfPlace):
                    Keeper(archive, hour)

    def test_no_hours_without_things(self):
        held = Keeper(Archive(KINDS, ROOMS, [], [], []), 5)
        for hour in (-1, LAST + 1, *NO_NUMBERS):
            with self.assertRaises(OutOfPlace):
                Keeper(held.its_archive(), hour)
            with self.assertRaises(OutOfPlace):
                held.set_hour(hour)

    def test_it_is_not_looked_through(self):
        twice = Archive(KINDS, ROOMS + ROOMS[:1], BOXES, THINGS, EVENTS)
        self.assertEqual(Keeper(twice, 5).its_archive().told(), twice.told())

    def test_lacks_of_the_first_stretch_thing_by_thing(self):
        events = [(3, "saw", ("move", "cave")), (5, "bow", ("move", "den")), (6, "bow", ("move", "cave")),
                  (9, "bow", ("move", "hall")), (9, "bow", ("mend", 0)), (9, "saw", ("mend", 0)),
                  (9, "saw", ("move", "hall"))]
        archive = archive_of(events)
        for hour, room in ((4, "cave"), (5, "cave"), (6, "den"), (7, "den"), (50, "den")):
            with self.assertRaises(Lacking) as caught:
                Keeper(archive, hour)
            self.assertEqual(caught.exception.room, room)
        # Mended behind, the share lacks nothing, but a stretch does.
        self.assertEqual(worn_share(archive, "bow", 50), pair(span(archive, "wood", "hall", "", 9, 50) / 1000))
        self.assertEqual(Keeper(archive, 3).share_of("saw"), (7, 20))

    def test_no_things(self):
        for thing in NO_NAMES:
            with self.assertRaises(OutOfPlace):
                Keeper(archive_of(), 5).share_of(thing)


class Deeds(unittest.TestCase):
    def setUp(self):
        self.held = Keeper(archive_of(), 20)

    def check(self, told, *anew):
        self.assertEqual(told, list(anew))
        self.check_as_made_anew()

    def check_as_made_anew(self):
        other = Keeper(self.held.its_archive(), self.held.its_hour())
        self.assertEqual(state(self.held), state(other))
        shares = [(thing[0], worn_share(other.its_archive(), thing[0], other.its_hour()))
                  for thing in other.its_archive().told()[3]]
        self.assertEqual(self.held.all_shares(), shares)

    def test_hours(self):
        self.check(self.held.set_hour(20))
        self.check(self.held.set_hour(21), ("bow", 8), ("saw", 15), ("urn", 0))
        self.check(self.held.set_hour(35), ("bow", 8), ("bow", 30), ("saw", 15), ("urn", 0))
        self.check(self.held.set_hour(7), ("bow", 3), ("saw", 5), ("urn", 0))
        self.check(self.held.set_hour(0))
        self.check(self.held.set_hour(8), ("bow", 0), ("bow", 3), ("saw", 0), ("saw", 5), ("urn", 0))
        self.check(self.held.set_hour(LAST), ("bow", 8), ("bow", 30), ("saw", 5), ("saw", 15), ("urn", 0))

    def test_events_put(self):
        self.check(self.held.put_event(0, (1, "bow", ("box", "chest"))), ("bow", 0), ("bow", 1), ("bow", 3), ("bow", 8))
        self.assertEqual(self.held.its_archive().told()[4], [(1, "bow", ("box", "chest")), *EVENTS])
        self.check(self.held.put_event(5, (40, "urn", ("mend", 0))))
        self.assertEqual(self.held.its_archive().told()[4][-1], (40, "urn", ("mend", 0)))
        self.check(self.held.put_event(3, (5, "urn", ("mend", 0))), ("urn", 0), ("urn", 5))
        self.assertEqual(self.held.its_archive().told()[4][3], (5, "urn", ("mend", 0)))
        self.check(self.held.put_event(4, (7, "bow", ("move", "loft"))), ("bow", 3), ("bow", 7))

    def test_mendings_of_stretches_that_stay(self):
        self.check(self.held.put_event(3, (8, "bow", ("mend", 55))))
        self.assertEqual(self.held.share_of("bow"), worn_share(self.held.its_archive(), "bow", 20))
        self.check(self.held.take_event(2))
        self.check(self.held.put_event(1, (3, "bow", ("mend", 2))))

    def test_events_taken(self):
        self.check(self.held.take_event(3))
        self.check(self.held.take_event(1), ("saw", 0))
        self.check(self.held.take_event(1), ("bow", 3))
        self.check(self.held.take_event(0), ("bow", 0))
        self.assertEqual(self.held.its_archive().told()[4], [])

    def test_readings(self):
        self.check(self.held.set_reading("hall", 1, 25, 50), ("bow", 0), ("saw", 0), ("saw", 15))
        self.assertEqual(self.held.its_archive().told()[1][0][3], ((0, 25, 50), (6, 20, 40)))
        self.check(self.held.set_reading("hall", 1, 25, 50))
        self.check(self.held.set_reading("hall", 2, 0, 100), ("bow", 0), ("saw", 0), ("saw", 15))
        self.assertEqual(self.held.its_archive().told()[1][0][3], ((0, 25, 50), (6, 0, 100)))
        self.check(self.held.set_reading("loft", 1, 12, 35), ("bow", 3), ("bow", 8), ("urn", 0))
        self.check(self.held.set_reading("cave", 1, 40, 0))
        self.check(self.held.set_reading("den", 1, None, None))

    def test_lacking_readings_that_count_no_hour(self):
        self.check(self.held.set_reading("den", 2, 0, None))
        self.check(self.held.set_reading("den", 1, 4, 5))
        self.check(self.held.set_reading("den", 2, 1, 2))
        self.check(self.held.put_event(0, (2, "bow", ("move", "den"))), ("bow", 0), ("bow", 2))

    def test_wears(self):
        self.check(self.held.set_wear("iron", 1, 1, 8), ("saw", 0), ("saw", 5), ("saw", 15))
        self.check(self.held.set_wear("iron", 1, 1, 8))
        self.check(self.held.set_wear("wood", 2, 1, 0), ("bow", 0), ("bow", 3), ("bow", 8), ("urn", 0))
        self.assertEqual(self.held.its_archive().told()[0][0][4], ((5, 8), (0, 6)))
        self.check(self.held.set_wear("wood", 1, 2, 1000), ("bow", 0), ("bow", 3), ("bow", 8), ("urn", 0))
        self.assertEqual(self.held.its_archive().told()[0][0][4], ((5, 1000), (0, 6)))

    def test_undo(self):
        before = state(self.held)
        self.held.set_hour(35)
        self.check(self.held.undo(), ("bow", 8), ("saw", 15), ("urn", 0))
        self.assertEqual(state(self.held), before)
        self.held.set_reading("loft", 1, 30, 3)
        self.held.take_event(0)
        self.held.set_hour(20)
        self.held.set_wear("iron", 1, 1, 0)
        self.check(self.held.undo(), ("saw", 0), ("saw", 5), ("saw", 15))
        self.check(self.held.undo())
        # As the first event comes back, so does what lay in the loft, and it is another loft by then.
        self.check(self.held.undo(), ("bow", 0), ("bow", 3), ("bow", 8))
        self.check(self.held.undo(), ("bow", 3), ("bow", 8), ("urn", 0))
        self.assertEqual(state(self.held), before)

    def test_undo_without_a_deed(self):
        for _ in range(2):
            with self.assertRaises(OutOfPlace):
                self.held.undo()
        self.held.set_hour(1)
        self.held.undo()
        with self.assertRaises(OutOfPlace):
            self.held.undo()
        self.assertEqual(state(self.held), state(Keeper(archive_of(), 20)))

    def test_undo_is_no_deed_to_take_back(self):
        self.held.set_hour(1)
        self.held.set_hour(2)
        self.held.undo()
        self.held.set_hour(3)
        self.held.undo()
        self.assertEqual(self.held.its_hour(), 1)
        self.held.undo()
        self.assertEqual(self.held.its_hour(), 20)

    def test_undo_behind_a_refused_deed(self):
        self.held.set_hour(9)
        for refused in (lambda: self.held.set_hour(-1), lambda: self.held.take_event(4),
                        lambda: self.held.put_event(0, (9, "bow", ("mend", 1))),
                        lambda: self.held.set_reading("hall", 1, None, 1)):
            with self.assertRaises(ArchiveError):
                refused()
        self.held.undo()
        self.assertEqual(self.held.its_hour(), 20)

    def test_a_deed_that_changes_nothing_is_taken_back_too(self):
        self.held.set_hour(9)
        self.held.set_hour(9)
        self.check(self.held.undo())
        self.assertEqual(self.held.its_hour(), 9)
        self.held.undo()
        self.assertEqual(self.held.its_hour(), 20)

    def test_chance_deeds(self):
        chance = random.Random(90)
        for _ in range(40):
            archive = made(chance, gaps=chance.choice((0, 0, 1)), things=4)
            try:
                self.held = Keeper(archive, chance.randint(0, 100))
            except Lacking:
                self.held = Keeper(archive, 0)
            states = []
            for _ in range(25):
                self.chance_deed(chance, states)

    def chance_deed(self, chance, states):
        ahead = self.held.its_archive(), self.held.its_hour()
        before = state(self.held)
        word, *handed = chance.choice(self.deeds(chance, *ahead))
        deed = getattr(self.held, word)
        try:
            told = deed(*handed)
        except ArchiveError:
            self.assertEqual(state(self.held), before)
            return
        self.assertEqual(told, told_anew(ahead, (self.held.its_archive(), self.held.its_hour())))
        self.check_as_made_anew()
        look_through(self.held.its_archive())
        if word == "undo":
            self.assertEqual(state(self.held), states.pop())
        else:
            states.append(before)

    def deeds(self, chance, archive, hour):
        kinds, rooms, boxes, things, events = archive.told()
        room, kind, thing = chance.choice(rooms), chance.choice(kinds), chance.choice(things)
        number = chance.randint(0, len(events))
        at = events[number][0] if number < len(events) else chance.randint(0, 200)
        names = [row[0] for row in rooms if may(row, thing[1])]
        return [
            ("set_hour", chance.randint(0, 200)),
            ("put_event", number, made_event(chance, at, thing[0], names, [box[0] for box in boxes])),
            ("take_event", chance.randint(0, len(events))),
            ("set_reading", room[0], chance.randint(1, len(room[3])), chance.choice((None, 0, 20, 40)),
             chance.choice((None, 0, 50, 100))),
            ("set_wear", kind[0], chance.randint(1, len(kind[2])), chance.randint(1, len(kind[3])),
             chance.randint(0, 3)),
            ("undo",),
        ]


class Refused(unittest.TestCase):
    def setUp(self):
        self.held = Keeper(archive_of(), 20)
        self.before = state(self.held)

    def refuse(self, error, deed, *handed):
        with self.assertRaises(error) as caught:
            getattr(self.held, deed)(*handed)
        self.assertEqual(state(self.held), self.before)
        with self.assertRaises(OutOfPlace):
            self.held.undo()
        return caught.exception

    def test_hours(self):
        for hour in (-1, LAST + 1, *NO_NUMBERS):
            self.refuse(OutOfPlace, "set_hour", hour)

    def test_numbers_of_events(self):
        event = (30, "bow", ("mend", 1))
        for number in (-1, -5, 5, 40, *NO_NUMBERS):
            self.refuse(OutOfPlace, "put_event", number, event)
            # Ahead of an event that cannot stand.
            self.refuse(OutOfPlace, "put_event", number, (0, "x", ("mend", 1)))
        for number in (-1, 4, 5, *NO_NUMBERS):
            self.refuse(OutOfPlace, "take_event", number)

    def test_no_event_to_take(self):
        self.held = Keeper(archive_of([]), 20)
        self.before = state(self.held)
        for number in (0, -1, 1):
            self.refuse(OutOfPlace, "take_event", number)

    def test_a_forty_first_event(self):
        self.held = Keeper(archive_of([(9, "bow", ("mend", 0))] * 39), 20)
        self.assertEqual(self.held.put_event(39, (9, "bow", ("mend", 0))), [])
        self.before = state(self.held)
        for number in (0, 39, 40):
            for event in ((9, "bow", ("mend", 0)), (9, "x", ("mend", 0))):
                with self.assertRaises(OutOfPlace):
                    self.held.put_event(number, event)
        self.assertEqual(state(self.held), self.before)
        self.held.take_event(5)
        self.held.put_event(5, (9, "saw", ("mend", 0)))

    def test_events_that_cannot_stand(self):
        for number, event, what in (
                (0, (3, "x", ("mend", 0)), "unknown"), (0, (3, "bow", ("move", "x")), "unknown"),
                (0, (3, "bow", ("box", "x")), "unknown"), (0, (3, "saw", ("move", "loft")), "kind"),
                (2, (6, "saw", ("mend", 0)), "away"), (4, (29, "bow", ("mend", 0)), "late")):
            error = self.refuse(BadArchive, "put_event", number, event)
            self.assertEqual((error.what, error.name), (what, event[1]))

    def test_what_an_event_makes_of_those_behind(self):
        error = self.refuse(BadArchive, "put_event", 0, (9, "saw", ("mend", 0)))
        self.assertEqual((error.what, error.name), ("late", "bow"))
        error = self.refuse(BadArchive, "put_event", 0, (0, "saw", ("lend", 6, 1, 1)))
        self.assertEqual((error.what, error.name), ("away", "saw"))

    def test_events_into_rooms_that_lack(self):
        error = self.refuse(Lacking, "put_event", 3, (19, "bow", ("move", "den")))
        self.assertEqual(error.room, "den")
        self.assertEqual(self.held.put_event(3, (20, "bow", ("move", "den"))), [])
        with self.assertRaises(Lacking):
            self.held.set_hour(21)
        self.assertEqual(self.held.its_hour(), 20)

    def test_bad_ahead_of_lacking(self):
        self.refuse(BadArchive, "put_event", 0, (9, "bow", ("move", "den")))

    def test_taking_an_event_may_leave_a_thing_where_readings_lack(self):
        self.held = Keeper(archive_of([(5, "bow", ("move", "den")), (5, "bow", ("move", "hall"))]), 20)
        self.before = state(self.held)
        self.assertEqual(self.refuse(Lacking, "take_event", 1).room, "den")

    def test_rooms_and_rows(self):
        for room in NO_NAMES:
            self.refuse(OutOfPlace, "set_reading", room, 1, 1, 1)
        for row in (0, -1, 3, 25, *NO_NUMBERS):
            self.refuse(OutOfPlace, "set_reading", "hall", row, 1, 1)

    def test_readings(self):
        for reading in (-1, True, False, "", "1", "?", 1.0, [1], (1,), {}, object()):
            self.refuse(OutOfPlace, "set_reading", "hall", 1, reading, 1)
            self.refuse(OutOfPlace, "set_reading", "hall", 1, 1, reading)
        self.refuse(OutOfPlace, "set_reading", "hall", 1, 41, 1)
        self.refuse(OutOfPlace, "set_reading", "hall", 1, 1, 101)
        # Ahead of readings that lack where hours count.
        self.refuse(OutOfPlace, "set_reading", "hall", 1, None, 101)

    def test_readings_that_lack(self):
        for warmth, wet in ((None, 1), (1, None), (None, None)):
            self.assertEqual(self.refuse(Lacking, "set_reading", "hall", 2, warmth, wet).room, "hall")
            self.assertEqual(self.refuse(Lacking, "set_reading", "loft", 1, warmth, wet).room, "loft")

    def test_more_rows_that_lack_than_there_may_be(self):
        day = tuple((hour, None, 1) for hour in range(6)) + ((6, 1, 1),)
        rooms = [*ROOMS, ("pit", 1, (), day, ())]
        self.held = Keeper(archive_of(rooms=rooms), 20)
        self.before = state(self.held)
        error = self.refuse(BadArchive, "set_reading", "pit", 7, None, 1)
        self.assertEqual((error.what, error.name), ("lacks", "pit"))
        # Ahead of Lacking, and by the first row that cannot stand.
        error = self.refuse(BadArchive, "set_reading", "hall", 1, None, 1)
        self.assertEqual((error.what, error.name), ("lacks", "pit"))

    def test_kinds_and_tables(self):
        for kind in NO_NAMES:
            self.refuse(OutOfPlace, "set_wear", kind, 1, 1, 1)
        for number in (0, -1, 3, *NO_NUMBERS):
            self.refuse(OutOfPlace, "set_wear", "wood", number, 1, 1)
            self.refuse(OutOfPlace, "set_wear", "wood", 1, number, 1)
        for parts in (-1, 1001, *NO_NUMBERS):
            self.refuse(OutOfPlace, "set_wear", "wood", 1, 1, parts)


class Own(unittest.TestCase):
    def test_what_is_handed_in_stays(self):
        lists = (list(KINDS), list(ROOMS), list(BOXES), list(THINGS), list(EVENTS))
        archive = Archive(*lists)
        one, other = Keeper(archive, 20), Keeper(archive, 20)
        before = state(other)
        one.put_event(0, (0, "bow", ("mend", 1)))
        one.take_event(3)
        one.set_reading("hall", 1, 1, 1)
        one.set_wear("wood", 1, 1, 1)
        one.set_hour(99)
        self.assertEqual(archive.told(), lists)
        self.assertEqual(state(other), before)
        with self.assertRaises(OutOfPlace):
            other.undo()
        one.undo()
        self.assertEqual(state(other), before)

    def test_what_was_told_stays(self):
        held = Keeper(archive_of(), 20)
        archive, shares = held.its_archive(), held.all_shares()
        told = archive.told()
        held.set_reading("hall", 1, 1, 1)
        held.take_event(0)
        self.assertEqual(archive.told(), told)
        self.assertEqual(shares, Keeper(archive_of(), 20).all_shares())

    def test_a_change_of_what_was_told_changes_nothing(self):
        held = Keeper(archive_of(), 20)
        before = state(held)
        held.its_archive().told()[4].clear()
        held.its_archive().events = ()
        held.all_shares().clear()
        archive = archive_of()
        other = Keeper(archive, 20)
        archive.things = ()
        held.set_hour(21).clear()
        self.assertEqual(held.undo(), [("bow", 8), ("saw", 15), ("urn", 0)])
        self.assertEqual(state(held), before)
        self.assertEqual(state(other), before)

    def test_two_keepers_of_what_one_tells(self):
        one = Keeper(archive_of(), 20)
        other = Keeper(one.its_archive(), one.its_hour())
        other.set_wear("wood", 1, 1, 1000)
        self.assertEqual(state(one), state(Keeper(archive_of(), 20)))

    def test_stretches_of_its_archive(self):
        held = Keeper(archive_of(), 20)
        self.assertEqual(stretches(held.its_archive(), "bow", 20), stretches(archive_of(), "bow", 20))


class Files(unittest.TestCase):
    def test_all_is_defined_in_its_file(self):
        self.assertEqual(Keeper.__module__, keeper.__name__)
        for name in ("its_archive", "its_hour", "share_of", "all_shares", "put_event", "take_event", "set_reading",
                     "set_wear", "set_hour", "undo"):
            self.assertIn(name, Keeper.__dict__)


if __name__ == "__main__":
    unittest.main()
