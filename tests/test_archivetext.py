"""archive_text and event_text: the text of an archive, row by row, sort by sort."""

import unittest

from lastingly import archivetext
from lastingly.archive import Archive
from lastingly.archiveread import read_archive, read_event
from lastingly.archivetext import archive_text, event_text
from samples import TEXT, boxes, events, five_lists, kinds, rooms, things


def text_of(kinds=None, rooms=None, boxes=(), things=(), events=()):
    kinds = kinds or [("wood", 1, (0,), (0,), ((0,),))]
    rooms = rooms or [("hall", 0, (), ((0, 0, 0),), ())]
    return archive_text(Archive(kinds, rooms, list(boxes), list(things), list(events)))


class Rows(unittest.TestCase):
    def row(self, at, **lists):
        return text_of(**lists).split("\n")[at]

    def test_kind(self):
        for kind, row in (
            (("oak", 1, (0,), (0,), ((0,),)), "kind oak 1 : 0 : 0 : 0"),
            (("oak", 1000000000, (40,), (100,), ((1000,),)), "kind oak 1000000000 : 40 : 100 : 1000"),
            (("oak", 50, (0, 20), (10, 90), ((1, 2), (3, 4))), "kind oak 50 : 0 20 : 10 90 : 1 2 / 3 4"),
            (("oak", 50, (0, 20), (10,), ((1,), (3,))), "kind oak 50 : 0 20 : 10 : 1 / 3"),
            (("oak", 50, (20,), (10, 90), ((1, 3),)), "kind oak 50 : 20 : 10 90 : 1 3"),
        ):
            self.assertEqual(self.row(0, kinds=[kind]), row)

    def test_room(self):
        for room, row in (
            (("den", 0, (), ((0, 1, 2),), ()), "room den 0 any : 0 1 2 : none"),
            (("den", 12, ("oak",), ((0, 1, 2),), ()), "room den 12 oak : 0 1 2 : none"),
            (("den", 3, ("oak", "ash", "elm"), ((0, 1, 2),), ()), "room den 3 oak+ash+elm : 0 1 2 : none"),
            (("den", 3, (), ((0, None, 2),), ()), "room den 3 any : 0 ? 2 : none"),
            (("den", 3, (), ((0, 1, None),), ()), "room den 3 any : 0 1 ? : none"),
            (("den", 3, (), ((0, 1, 2), (6, None, None), (23, 0, 0)), ()),
             "room den 3 any : 0 1 2 , 6 ? ? , 23 0 0 : none"),
            (("den", 3, (), ((0, 1, 2),), ((0, 0, 0),)), "room den 3 any : 0 1 2 : 0 0 0"),
            (("den", 3, (), ((0, 1, 2),), ((5, -40, 100), (364, 40, -100))),
             "room den 3 any : 0 1 2 : 5 -40 100 , 364 40 -100"),
        ):
            self.assertEqual(self.row(1, rooms=[room]), row)

    def test_box(self):
        self.assertEqual(self.row(2, boxes=[("bag", 0, 100)]), "box bag 0 100")

    def test_thing(self):
        for thing, row in (
            (("bow", "wood", "hall", "bag", 0), "thing bow wood hall bag 0"),
            (("bow", "wood", "hall", "", 1000000000), "thing bow wood hall none 1000000000"),
        ):
            self.assertEqual(self.row(2, things=[thing]), row)

    def test_event(self):
        for event, row in (
            ((0, "bow", ("move", "hall")), "at 0 bow move hall"),
            ((7, "bow", ("box", "bag")), "at 7 bow box bag"),
            ((7, "bow", ("box", "")), "at 7 bow box none"),
            ((7, "bow", ("lend", 1000000000, 0, 100)), "at 7 bow lend 1000000000 0 100"),
            ((1000000000, "bow", ("mend", 0)), "at 1000000000 bow mend 0"),
        ):
            self.assertEqual(event_text(event), row)
            self.assertEqual(self.row(2, events=[event]), row)


class Texts(unittest.TestCase):
    def test_every_sort_of_row(self):
        self.assertEqual(archive_text(Archive(*five_lists())), TEXT)

    def test_one_kind_and_one_room(self):
        self.assertEqual(text_of(), "kind wood 1 : 0 : 0 : 0\nroom hall 0 any : 0 0 0 : none")

    def test_rows_stay_in_the_order_of_their_lists(self):
        lists = [list(reversed(rows)) for rows in five_lists()]
        lines = TEXT.split("\n")
        turned = lines[1::-1] + lines[3:1:-1] + lines[5:3:-1] + lines[7:5:-1] + lines[:7:-1]
        self.assertEqual(archive_text(Archive(*lists)), "\n".join(turned))

    def test_written_and_read_back(self):
        for lists in (
            five_lists(),
            (kinds()[:1], rooms()[:1], [], [], []),
            (kinds(), rooms(), [], [], events()),
            (kinds() * 3, rooms() * 3, boxes() * 2, things() * 6, events() * 8),
        ):
            self.assertEqual(read_archive(archive_text(Archive(*lists))).told(), lists)

    def test_read_and_written_back(self):
        self.assertEqual(archive_text(read_archive(TEXT)), TEXT)
        for event in events():
            self.assertEqual(read_event(event_text(event), 1), event)

    def test_an_archive_that_looking_refuses_has_a_text_too(self):
        lists = ([("wood", 1, (0,), (0,), ((0,),))] * 2, [("hall", 0, ("oak",), ((0, 0, 0),), ())], [], [],
                 [(5, "bow", ("box", "bag")), (4, "axe", ("move", "den"))])
        self.assertEqual(archive_text(Archive(*lists)), "\n".join([
            "kind wood 1 : 0 : 0 : 0", "kind wood 1 : 0 : 0 : 0", "room hall 0 oak : 0 0 0 : none",
            "at 5 bow box bag", "at 4 axe move den"]))


class Own(unittest.TestCase):
    def test_the_archive_stays_as_it_was(self):
        archive = Archive(*five_lists())
        told = archive.told()
        archive_text(archive)
        self.assertEqual(archive.told(), five_lists())
        self.assertEqual(told, five_lists())

    def test_a_text_stays_when_the_told_lists_change(self):
        archive = Archive(*five_lists())
        text = archive_text(archive)
        for rows in archive.told():
            rows.clear()
        self.assertEqual(text, TEXT)
        self.assertEqual(archive_text(archive), TEXT)


class Files(unittest.TestCase):
    def test_all_is_defined_in_its_file(self):
        for function in (archive_text, event_text):
            self.assertEqual(function.__module__, archivetext.__name__)


if __name__ == "__main__":
    unittest.main()
