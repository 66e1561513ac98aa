"""look_through: the first row of an archive that cannot stand beside those ahead of it."""

import unittest

from lastingly import looking
from lastingly.archive import Archive
from lastingly.errors import BadArchive
from lastingly.looking import look_through
from samples import five_lists


def kind(name):
    return name, 9, (0,), (0,), ((1,),)


def room(name, kinds=(), day=((0, 1, 1),)):
    return name, 1, kinds, day, ()


def day_that_lacks(many, whole=0):
    """A day of which so many rows lack something, in turn the warmth, the wet and both, and so many nothing."""
    lacking = ((None, 1), (1, None), (None, None))
    return tuple((hour, *(lacking[hour % 3] if hour < many else (1, 1))) for hour in range(many + whole))


KINDS = [kind("wood"), kind("iron")]
ROOMS = [room("hall"), room("loft", ("wood",)), room("forge", ("iron", "wood")), room("mine", ("iron",))]
BOXES = [("chest", 1, 2), ("case", 0, 100)]
THINGS = [("bow", "wood", "loft", "chest", 0), ("saw", "iron", "hall", "", 5)]


def looked(kinds=None, rooms=None, boxes=None, things=None, events=()):
    """What looking tells of an archive: what is wrong and the name, or None."""
    archive = Archive(
        KINDS if kinds is None else kinds, ROOMS if rooms is None else rooms, BOXES if boxes is None else boxes,
        THINGS if things is None else things, list(events))
    try:
        return look_through(archive)
    except BadArchive as error:
        return error.what, error.name


class Standing(unittest.TestCase):
    def test_archives_that_stand(self):
        self.assertIsNone(look_through(Archive(*five_lists())))
        self.assertIsNone(looked())
        self.assertIsNone(looked([kind("wood")], [room("hall")], [], []))

    def test_one_name_of_several_sorts(self):
        self.assertIsNone(looked([kind("oak")], [room("oak")], [("oak", 1, 1)], [("oak", "oak", "oak", "oak", 0)],
                                 [(0, "oak", ("move", "oak")), (0, "oak", ("box", "oak"))]))

    def test_events_alike(self):
        self.assertIsNone(looked(events=[(5, "bow", ("mend", 3))] * 40))

    def test_the_archive_stays_as_it_was(self):
        for lists in (five_lists(), ([kind("oak")] * 2, [room("den")], [], [], [])):
            archive = Archive(*lists)
            told = archive.told()
            try:
                look_through(archive)
            except BadArchive:
                pass
            self.assertEqual(archive.told(), lists)
            self.assertEqual(told, lists)


class Twice(unittest.TestCase):
    def test_each_sort(self):
        self.assertEqual(looked(kinds=KINDS + [kind("iron")]), ("twice", "iron"))
        self.assertEqual(looked(rooms=ROOMS + [room("hall", ("wood",))]), ("twice", "hall"))
        self.assertEqual(looked(boxes=BOXES + [("chest", 5, 6)]), ("twice", "chest"))
        self.assertEqual(looked(things=THINGS + [("bow", "iron", "hall", "", 7)]), ("twice", "bow"))

    def test_the_first_name_that_is_there_again(self):
        self.assertEqual(looked(boxes=[("a", 1, 1), ("b", 1, 1), ("b", 1, 1), ("a", 1, 1)]), ("twice", "b"))


class Unknown(unittest.TestCase):
    def test_kinds_of_rooms(self):
        for kinds in (("oak",), ("oak", "wood"), ("wood", "oak"), ("wood", "iron", "oak"), ("hall",), ("den",)):
            self.assertEqual(looked(rooms=ROOMS + [room("den", kinds)]), ("unknown", "den"))

    def test_what_is_told_of_things(self):
        for told in (("oak", "hall", ""), ("hall", "hall", ""), ("wood", "den", ""), ("wood", "wood", ""),
                     ("wood", "chest", ""), ("wood", "hall", "bag"), ("wood", "hall", "hall"), ("axe", "hall", "")):
            self.assertEqual(looked(things=THINGS + [("axe", *told, 0)]), ("unknown", "axe"))

    def test_things_of_events(self):
        for deed in (("move", "hall"), ("box", ""), ("lend", 1, 1, 1), ("mend", 0)):
            for thing in ("axe", "hall", "wood", "chest"):
                self.assertEqual(looked(events=[(0, thing, deed)]), ("unknown", thing))

    def test_rooms_and_boxes_of_events(self):
        for deed in (("move", "den"), ("move", "chest"), ("move", "bow"), ("box", "bag"), ("box", "hall")):
            self.assertEqual(looked(events=[(0, "saw", deed)]), ("unknown", "saw"))

    def test_no_box_is_always_there(self):
        self.assertIsNone(looked(boxes=[], things=[("bow", "wood", "loft", "", 0)], events=[(0, "bow", ("box", ""))]))


class Kind(unittest.TestCase):
    def test_rooms_of_things(self):
        for kind_of_thing, told in (("iron", "loft"), ("wood", "mine")):
            self.assertEqual(looked(things=THINGS + [("axe", kind_of_thing, told, "", 0)]), ("kind", "axe"))
        for kind_of_thing, told in (("wood", "hall"), ("iron", "hall"), ("wood", "loft"), ("iron", "mine"),
                                    ("iron", "forge"), ("wood", "forge")):
            self.assertIsNone(looked(things=THINGS + [("axe", kind_of_thing, told, "", 0)]))

    def test_rooms_of_events(self):
        for thing, told in (("saw", "loft"), ("bow", "mine")):
            self.assertEqual(looked(events=[(0, thing, ("move", told))]), ("kind", thing))
        for thing, told in (("bow", "hall"), ("saw", "hall"), ("bow", "loft"), ("saw", "mine"), ("bow", "forge"),
                            ("saw", "forge")):
            self.assertIsNone(looked(events=[(0, thing, ("move", told))]))


class Lacks(unittest.TestCase):
    def test_eight_rows_of_days(self):
        self.assertIsNone(looked(rooms=ROOMS + [room("den", (), day_that_lacks(8, 16))]))
        self.assertEqual(looked(rooms=ROOMS + [room("den", (), day_that_lacks(9))]), ("lacks", "den"))
        self.assertEqual(looked(rooms=ROOMS + [room("den", (), day_that_lacks(9, 15))]), ("lacks", "den"))

    def test_a_row_that_lacks_both_counts_once(self):
        both = tuple((hour, None, None) for hour in range(8))
        self.assertIsNone(looked(rooms=ROOMS + [room("den", (), both)]))
        self.assertEqual(looked(rooms=ROOMS + [room("den", (), both + ((8, None, None),))]), ("lacks", "den"))

    def test_either_counts(self):
        for reading in ((None, 5), (5, None), (None, 0), (0, None)):
            day = tuple((hour, *reading) for hour in range(9))
            self.assertEqual(looked(rooms=ROOMS + [room("den", (), day)]), ("lacks", "den"))

    def test_nought_is_no_lack(self):
        day = tuple((hour, 0, 0) for hour in range(24))
        self.assertIsNone(looked(rooms=ROOMS + [room("den", (), day)]))

    def test_all_rooms_together(self):
        rooms = [room("den", (), day_that_lacks(3)), room("cave", (), day_that_lacks(0, 3)),
                 room("barn", (), day_that_lacks(5)), room("yard", (), day_that_lacks(0, 3))]
        self.assertIsNone(looked(rooms=rooms, things=[]))
        one_more = [*rooms, room("attic", (), day_that_lacks(1)), room("cellar", (), day_that_lacks(9))]
        self.assertEqual(looked(rooms=one_more, things=[]), ("lacks", "attic"))


class Late(unittest.TestCase):
    def test_hours_that_fall(self):
        for thing in ("bow", "saw"):
            self.assertEqual(looked(events=[(7, "bow", ("mend", 0)), (6, thing, ("mend", 0))]), ("late", thing))
            self.assertEqual(looked(events=[(0, "bow", ("mend", 0)), (9, "saw", ("mend", 0)),
                                            (8, thing, ("mend", 0))]), ("late", thing))

    def test_hours_that_do_not_fall(self):
        self.assertIsNone(looked(events=[(hour, "bow", ("mend", 0)) for hour in (0, 0, 7, 7, 8, 1000000000)]))
        self.assertIsNone(looked(events=[(7, "bow", ("mend", 0)), (7, "saw", ("mend", 0))]))

    def test_every_deed(self):
        for deed in (("move", "hall"), ("box", ""), ("lend", 1, 1, 1), ("mend", 0)):
            self.assertEqual(looked(events=[(7, "bow", ("mend", 0)), (6, "bow", deed)]), ("late", "bow"))
            self.assertEqual(looked(events=[(7, "bow", deed), (6, "bow", ("mend", 0))]), ("late", "bow"))


class Away(unittest.TestCase):
    def lent(self, hours, *events):
        return looked(events=[(10, "bow", ("lend", hours, 1, 1)), *events])

    def test_ahead_of_the_end_and_just_at_it(self):
        for deed in (("move", "hall"), ("box", ""), ("lend", 1, 1, 1), ("mend", 0)):
            for hour in (10, 11, 14):
                self.assertEqual(self.lent(5, (hour, "bow", deed)), ("away", "bow"))
            for hour in (15, 16, 1000000000):
                self.assertIsNone(self.lent(5, (hour, "bow", deed)))

    def test_one_hour(self):
        self.assertEqual(self.lent(1, (10, "bow", ("mend", 0))), ("away", "bow"))
        self.assertIsNone(self.lent(1, (11, "bow", ("mend", 0))))

    def test_a_lending_that_never_ends(self):
        self.assertEqual(self.lent(1000000000, (1000000000, "bow", ("mend", 0))), ("away", "bow"))
        self.assertEqual(self.lent(999999991, (1000000000, "bow", ("mend", 0))), ("away", "bow"))
        self.assertIsNone(self.lent(999999990, (1000000000, "bow", ("mend", 0))))

    def test_events_ahead_of_the_lending(self):
        self.assertIsNone(looked(events=[
            (9, "bow", ("mend", 0)), (10, "bow", ("move", "hall")), (10, "bow", ("lend", 5, 1, 1))]))

    def test_other_things(self):
        self.assertIsNone(self.lent(5, (10, "saw", ("mend", 0)), (12, "saw", ("lend", 3, 1, 1)),
                                    (15, "saw", ("mend", 0)), (15, "bow", ("mend", 0))))
        self.assertEqual(self.lent(5, (12, "saw", ("lend", 9, 1, 1)), (15, "bow", ("mend", 0)),
                                   (20, "saw", ("mend", 0))), ("away", "saw"))

    def test_one_lending_behind_another_one(self):
        self.assertIsNone(self.lent(5, (15, "bow", ("lend", 5, 1, 1)), (20, "bow", ("mend", 0))))
        self.assertEqual(self.lent(5, (15, "bow", ("lend", 5, 1, 1)), (19, "bow", ("mend", 0))), ("away", "bow"))
        self.assertEqual(self.lent(9, (10, "saw", ("lend", 2, 1, 1)), (18, "bow", ("lend", 1, 1, 1))), ("away", "bow"))


class Order(unittest.TestCase):
    def test_within_a_room(self):
        bad = room("hall", ("oak",), day_that_lacks(9))
        self.assertEqual(looked(rooms=ROOMS + [bad]), ("twice", "hall"))
        self.assertEqual(looked(rooms=[bad] + ROOMS), ("unknown", "hall"))

    def test_within_a_thing(self):
        self.assertEqual(looked(things=THINGS + [("bow", "oak", "den", "bag", 0)]), ("twice", "bow"))
        self.assertEqual(looked(things=THINGS + [("bow", "wood", "mine", "", 0)]), ("twice", "bow"))
        self.assertEqual(looked(things=THINGS + [("axe", "wood", "mine", "bag", 0)]), ("unknown", "axe"))

    def test_within_an_event(self):
        ahead = [(7, "saw", ("lend", 9, 1, 1))]
        self.assertEqual(looked(events=ahead + [(6, "saw", ("move", "den"))]), ("unknown", "saw"))
        self.assertEqual(looked(events=ahead + [(6, "saw", ("box", "bag"))]), ("unknown", "saw"))
        self.assertEqual(looked(events=ahead + [(8, "saw", ("box", "bag"))]), ("unknown", "saw"))
        self.assertEqual(looked(events=ahead + [(6, "saw", ("move", "loft"))]), ("kind", "saw"))
        self.assertEqual(looked(events=ahead + [(8, "saw", ("move", "loft"))]), ("kind", "saw"))
        self.assertEqual(looked(events=ahead + [(6, "saw", ("move", "hall"))]), ("late", "saw"))

    def test_between_rows(self):
        lists = {
            "kinds": KINDS + [kind("wood")],
            "rooms": ROOMS + [room("den", ("oak",))],
            "boxes": BOXES + [("chest", 1, 1)],
            "things": THINGS + [("axe", "wood", "mine", "", 0)],
            "events": [(5, "saw", ("mend", 0)), (4, "bow", ("mend", 0))],
        }
        for name in (("twice", "wood"), ("unknown", "den"), ("twice", "chest"), ("kind", "axe"), ("late", "bow")):
            self.assertEqual(looked(**lists), name)
            del lists[next(iter(lists))]

    def test_between_rows_of_a_sort(self):
        late, unknown = (4, "bow", ("mend", 0)), (9, "axe", ("mend", 0))
        ahead = [(5, "saw", ("lend", 9, 1, 1))]
        self.assertEqual(looked(events=[*ahead, late, unknown]), ("late", "bow"))
        self.assertEqual(looked(events=[*ahead, unknown, late]), ("unknown", "axe"))
        self.assertEqual(looked(events=[*ahead, (6, "saw", ("mend", 0)), late, unknown]), ("away", "saw"))
        self.assertEqual(looked(things=[("axe", "wood", "mine", "", 0), *THINGS, THINGS[0]]), ("kind", "axe"))
        self.assertEqual(looked(rooms=[room("den", (), day_that_lacks(9)), *ROOMS, ROOMS[0]]), ("lacks", "den"))


class Files(unittest.TestCase):
    def test_all_is_defined_in_its_file(self):
        self.assertEqual(look_through.__module__, looking.__name__)


if __name__ == "__main__":
    unittest.main()
