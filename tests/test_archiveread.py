"""read_archive and read_event: rows by themselves; the first row, and in it the first word, that cannot stand."""

import unittest

from lastingly import archiveread
from lastingly.archive import Archive
from lastingly.archiveread import read_archive, read_event
from lastingly.errors import BadRow
from samples import TEXT, five_lists

KIND = "kind wood 9 : 0 : 0 : 1"
ROOM = "room hall 1 any : 0 1 1 : none"
BOX = "box bag 1 2"
THING = "thing bow wood hall none 0"
EVENT = "at 0 bow mend 0"

NO_TEXTS = (None, True, False, 0, 1, b"kind wood 9 : 0 : 0 : 1", [KIND, ROOM], (KIND, ROOM), {}, {KIND: 1}, object())
NO_NAMES = ("Bow", "b0w", "bow_", "ninechars", "any", "none", "at", "move", "box", "lend", "mend", "?", ":", "5", "a+b")
NO_NUMBERS = ("x", "?", ":", "+5", "05", "00", "-0", "--5", "5.", "1e2", "5x", "-", "12345678901", "0x5", "1_0", "5\n")


def text(*rows):
    return "\n".join(rows)


def rows_of(many, of_row):
    return " , ".join(of_row(at) for at in range(many))


def refused(reading, *handed):
    """The row and the word by which a reading is refused."""
    try:
        reading(*handed)
    except BadRow as error:
        return error.row, error.word
    return None


class Good(unittest.TestCase):
    def test_every_sort_of_row(self):
        archive = read_archive(TEXT)
        self.assertIs(type(archive), Archive)
        self.assertEqual(archive.told(), five_lists())

    def test_a_kind_and_a_room_alone(self):
        self.assertEqual(read_archive(text(KIND, ROOM)).told(), (
            [("wood", 9, (0,), (0,), ((1,),))], [("hall", 1, (), ((0, 1, 1),), ())], [], [], []))

    def test_sorts_may_lack(self):
        for rows, counts in (
            ([BOX], (1, 1, 1, 0, 0)),
            ([THING], (1, 1, 0, 1, 0)),
            ([EVENT], (1, 1, 0, 0, 1)),
            ([BOX, EVENT], (1, 1, 1, 0, 1)),
            ([BOX, THING, THING], (1, 1, 1, 2, 0)),
        ):
            told = read_archive(text(KIND, ROOM, *rows)).told()
            self.assertEqual(tuple(len(rows) for rows in told), counts)

    def test_names_need_not_be_there_and_may_be_there_twice(self):
        told = read_archive(text(
            KIND, KIND, "room hall 1 oak+ash : 0 1 1 : none", ROOM, BOX, BOX, "thing bow elm den case 0",
            "thing bow elm den case 0", "at 9 axe move attic", "at 3 axe box case", "at 3 bow lend 5 1 1",
            "at 3 bow mend 1")).told()
        self.assertEqual([len(rows) for rows in told], [2, 2, 2, 2, 4])
        self.assertEqual(told[3][0], ("bow", "elm", "den", "case", 0))

    def test_as_many_rows_as_there_may_be(self):
        told = read_archive(text(*[KIND] * 6, *[ROOM] * 6, *[BOX] * 4, *[THING] * 12, *[EVENT] * 40)).told()
        self.assertEqual([len(rows) for rows in told], [6, 6, 4, 12, 40])

    def test_rows_keep_their_order(self):
        archive = read_archive(text("kind oak 1 : 0 : 0 : 0", "kind ash 1 : 0 : 0 : 0", ROOM,
                                    "at 9 bow mend 1", "at 3 bow mend 2"))
        kinds, _, _, _, events = archive.told()
        self.assertEqual([kind[0] for kind in kinds], ["oak", "ash"])
        self.assertEqual(events, [(9, "bow", ("mend", 1)), (3, "bow", ("mend", 2))])


class Bounds(unittest.TestCase):
    """Rows just within their bounds."""

    def told(self, row):
        sorts = ("kind", "room", "box", "thing", "at")
        sort = sorts.index(row.split(" ")[0])
        rows = [KIND, ROOM, row] if sort > 1 else [[row, ROOM], [KIND, row]][sort]
        return read_archive(text(*rows)).told()[sort][0]

    def check(self, row, told):
        self.assertEqual(self.told(row), told)

    def test_kinds(self):
        self.check("kind a 1 : 0 : 0 : 0", ("a", 1, (0,), (0,), ((0,),)))
        self.check("kind abcdefgh 1000000000 : 40 : 100 : 1000",
                   ("abcdefgh", 1000000000, (40,), (100,), ((1000,),)))
        self.check("kind moved 7 : 0 1 2 39 40 : 0 1 2 99 100 : " + " / ".join(["0 1 2 3 1000"] * 5),
                   ("moved", 7, (0, 1, 2, 39, 40), (0, 1, 2, 99, 100), ((0, 1, 2, 3, 1000),) * 5))
        self.check("kind a 7 : 3 4 : 8 : 5 / 6", ("a", 7, (3, 4), (8,), ((5,), (6,))))
        self.check("kind a 7 : 3 : 8 9 : 5 6", ("a", 7, (3,), (8, 9), ((5, 6),)))

    def test_rooms(self):
        self.check("room a 0 any : 0 0 0 : none", ("a", 0, (), ((0, 0, 0),), ()))
        self.check("room a 12 oak : 0 40 100 : none", ("a", 12, ("oak",), ((0, 40, 100),), ()))
        self.check("room a 1 a+b+c+d+e+f : 0 1 1 : none", ("a", 1, tuple("abcdef"), ((0, 1, 1),), ()))
        self.check("room a 1 any : 0 ? 1 , 23 1 ? : none", ("a", 1, (), ((0, None, 1), (23, 1, None)), ()))
        self.check("room a 1 any : 0 ? ? : 0 -40 -100 , 364 40 100",
                   ("a", 1, (), ((0, None, None),), ((0, -40, -100), (364, 40, 100))))
        self.check("room a 1 any : 0 1 1 : 364 0 0", ("a", 1, (), ((0, 1, 1),), ((364, 0, 0),)))

    def test_rooms_of_the_longest_lists(self):
        day = rows_of(24, lambda at: f"{at} {at} ?")
        seasons = rows_of(12, lambda at: f"{at * 33} -{at + 1} {at}")
        self.check(f"room a 1 any : {day} : {seasons}", (
            "a", 1, (), tuple((at, at, None) for at in range(24)), tuple((at * 33, -at - 1, at) for at in range(12))))

    def test_boxes(self):
        self.check("box a 0 0", ("a", 0, 0))
        self.check("box a 100 100", ("a", 100, 100))
        self.check("box a 0 100", ("a", 0, 100))

    def test_things(self):
        self.check("thing a b c none 0", ("a", "b", "c", "", 0))
        self.check("thing a b c d 1000000000", ("a", "b", "c", "d", 1000000000))

    def test_events(self):
        for row, event in (
            ("at 0 a move b", (0, "a", ("move", "b"))),
            ("at 1000000000 a box b", (1000000000, "a", ("box", "b"))),
            ("at 5 a box none", (5, "a", ("box", ""))),
            ("at 5 a lend 1 0 0", (5, "a", ("lend", 1, 0, 0))),
            ("at 5 a lend 1000000000 40 100", (5, "a", ("lend", 1000000000, 40, 100))),
            ("at 5 a mend 0", (5, "a", ("mend", 0))),
            ("at 5 a mend 1000000000", (5, "a", ("mend", 1000000000))),
        ):
            self.check(row, event)
            self.assertEqual(read_event(row, 7), event)


class Words(unittest.TestCase):
    """The word of a row that cannot stand: a pattern with a star in the place of that word."""

    def check(self, row, word):
        """That a row is refused by a word wherever it may come."""
        ahead = [KIND, ROOM, THING] if row.startswith("at") else [KIND]
        self.assertEqual(refused(read_archive, text(row, KIND)), (1, word), row)
        self.assertEqual(refused(read_archive, text(*ahead, row)), (len(ahead) + 1, word), row)
        if row.startswith("at"):
            self.assertEqual(refused(read_event, row, 31), (31, word), row)

    def check_all(self, pattern, words):
        at = pattern.split(" ").index("*") + 1
        for word in words:
            self.check(pattern.replace("*", word), at)

    def check_lacking(self, row):
        """That a row is refused one behind the last word wherever it is cut off."""
        words = row.split(" ")
        for many in range(1, len(words)):
            self.check(" ".join(words[:many]), many + 1)

    def test_names(self):
        for pattern in ("kind * 9 : 0 : 0 : 1", "room * 1 any : 0 1 1 : none", "box * 1 2", "thing * b c d 0",
                        "thing a * c d 0", "thing a b * d 0", "at 0 * mend 0", "at 0 a move *"):
            self.check_all(pattern, NO_NAMES)

    def test_names_of_boxes(self):
        for pattern in ("thing a b c * 0", "at 0 a box *"):
            self.check_all(pattern, [word for word in NO_NAMES if word != "none"])

    def test_numbers_at_their_bounds(self):
        for pattern, wrong in (
            ("kind a * : 0 : 0 : 1", ("0", "-1", "1000000001")),
            ("kind a 9 : * : 0 : 1", ("-1", "41")),
            ("kind a 9 : 5 * : 0 : 1 / 1", ("5", "4", "0", "41")),
            ("kind a 9 : 5 6 * : 0 : 1 / 1 / 1", ("6", "5", "0", "41")),
            ("kind a 9 : 0 : * : 1", ("-1", "101")),
            ("kind a 9 : 0 : 5 * : 1 1", ("5", "4", "0", "101")),
            ("kind a 9 : 0 : 0 : *", ("-1", "1001")),
            ("kind a 9 : 0 1 : 0 2 : 1 2 / 3 *", ("-1", "1001")),
            ("room a * any : 0 1 1 : none", ("-1", "13")),
            ("room a 1 any : * 1 1 : none", ("1", "-1", "23", "24")),
            ("room a 1 any : 0 * 1 : none", ("-1", "41")),
            ("room a 1 any : 0 1 * : none", ("-1", "101")),
            ("room a 1 any : 0 1 1 , * 1 1 : none", ("0", "-1", "24")),
            ("room a 1 any : 0 1 1 , 5 1 1 , * 1 1 : none", ("5", "4", "0", "24")),
            ("room a 1 any : 0 1 1 , 23 1 1 , * 1 1 : none", ("22", "23", "24")),
            ("room a 1 any : 0 1 1 : * 0 0", ("-1", "365")),
            ("room a 1 any : 0 1 1 : 5 0 0 , * 0 0", ("5", "4", "0", "365")),
            ("room a 1 any : 0 1 1 : 0 * 0", ("-41", "41")),
            ("room a 1 any : 0 1 1 : 0 0 *", ("-101", "101")),
            ("box a * 100", ("-1", "101")),
            ("box a 0 *", ("-1", "101")),
            ("box a 50 *", ("49", "0", "101")),
            ("thing a b c d *", ("-1", "1000000001")),
            ("at * a mend 0", ("-1", "1000000001")),
            ("at 0 a mend *", ("-1", "1000000001")),
            ("at 0 a lend * 0 0", ("0", "-1", "1000000001")),
            ("at 0 a lend 1 * 0", ("-1", "41")),
            ("at 0 a lend 1 0 *", ("-1", "101")),
        ):
            self.check_all(pattern, wrong)
            self.check_all(pattern, [word for word in NO_NUMBERS if word not in "?:" and "\n" not in word])

    def test_signs_in_the_place_of_numbers(self):
        self.check_all("kind a 9 : * : 0 : 1", (":", "?", "/", ",", "none"))
        self.check_all("kind a 9 : 0 * : 0 : 1", ("?", "/", ",", "none"))
        self.check_all("room a 1 any : 0 * 1 : none", ("??", ":", ",", "none"))
        self.check_all("room a 1 any : * 1 1 : none", ("?", ":", ",", "none"))
        self.check_all("room a 1 any : 0 1 1 : 0 * 0", ("?", ":", ",", "none"))
        self.check_all("room a 1 any : 0 1 1 : *", ("?", ":", ",", "any", "nones"))
        self.check_all("at 0 a lend 1 * 0", ("?", ":", "none"))

    def test_other_signs(self):
        for pattern in ("kind a 9 * 0 : 0 : 1", "kind a 9 : 0 1 2 3 4 * 0 : 1 / 1 / 1 / 1 / 1",
                        "kind a 9 : 0 : 0 1 2 3 4 * 1 1 1 1 1", "kind a 9 : 0 1 : 0 : 1 * 1",
                        "room a 1 any * 0 1 1 : none", "room a 1 any : 0 1 1 * none",
                        "room a 1 any : 0 1 1 * 1 1 1 : none", "room a 1 any : 0 1 1 : 0 0 0 * 1 0 0"):
            self.check_all(pattern, ("::", ";", "|", "-", "none", "?", "50", "+"))

    def test_lists_that_are_too_long(self):
        self.check("kind a 9 : 0 1 2 3 4 5 : 0 : 1 / 1 / 1 / 1 / 1 / 1", 10)
        self.check("kind a 9 : 0 : 0 1 2 3 4 5 : 1 1 1 1 1 1", 12)
        self.check("room a 1 a+b+c+d+e+f+g : 0 1 1 : none", 4)
        # The first word too many is the sign ahead of the row too many.
        day = rows_of(25, lambda at: f"{at} 1 1")
        self.check(f"room a 1 any : {day} : none", 5 + 24 * 4)
        seasons = rows_of(13, lambda at: f"{at} 0 0")
        self.check(f"room a 1 any : 0 1 1 : {seasons}", 9 + 12 * 4)

    def test_tables_of_other_sizes(self):
        self.check("kind a 9 : 0 1 : 0 : 1", 11)
        self.check("kind a 9 : 0 1 : 0 : 1 2", 11)
        self.check("kind a 9 : 0 1 : 0 : 1 2 / 3 4", 11)
        self.check("kind a 9 : 0 1 : 0 2 : 1 / 3 4", 12)
        self.check("kind a 9 : 0 1 : 0 2 : 1 2 / 3", 15)
        self.check("kind a 9 : 0 1 : 0 2 : 1 2 3 / 4", 13)
        self.check("kind a 9 : 0 : 0 : 1 / 2", 10)
        self.check("kind a 9 : 0 1 : 0 : 1 / 2 / 3", 13)

    def test_kinds_that_a_room_takes(self):
        self.check_all("room a 1 * : 0 1 1 : none", (
            "none", "Any", "any+oak", "oak+any", "oak+none", "oak+oak", "oak+ash+oak", "oak+", "+oak", "oak++ash", "+",
            "oak,ash", "ninechars", "?", "5", ":"))

    def test_deeds(self):
        self.check_all("at 0 a * 0", ("mends", "Move", "at", "none", "?", "0", "put", ":"))
        self.check_all("at 0 a *", ("0", "none", "moves", ":"))

    def test_words_that_lack(self):
        for row in ("kind a 9 : 0 : 0 : 1", "kind a 9 : 0 1 : 0 2 : 1 2 / 3 4", "room a 1 any : 0 1 1 : none",
                    "room a 1 oak+ash : 0 ? 1 , 5 1 ? : 0 1 1", "box a 1 2", "thing a b c none 0", "at 0 a move b",
                    "at 0 a box none", "at 0 a lend 1 2 3", "at 0 a mend 4"):
            self.check_lacking(row)
        self.check("room a 1 any : 0 1 1 : 0 1 1 ,", 14)
        self.check("room a 1 any : 0 1 1 : 0 1 1 , 2 1", 16)

    def test_words_that_are_too_many(self):
        for row in (KIND, ROOM, "room a 1 any : 0 1 1 : 0 1 1", BOX, THING, "thing a b c d 0", "at 0 a move b",
                    "at 0 a box none", "at 0 a lend 1 2 3", EVENT):
            for more in ("0", "x", ":", "?", "none", "at", "/"):
                self.check(f"{row} {more}", len(row.split(" ")) + 1)
            self.check(f"{row} 0 0", len(row.split(" ")) + 1)

    def test_the_first_of_several(self):
        self.check("kind A 0 : 41 : 101 : 1001", 2)
        self.check("kind a 0 : 41 : 101 : 1001", 3)
        self.check("kind a 1 : 41 : 101 : 1001", 5)
        self.check("kind a 1 : 40 : 101 : 1001", 7)
        self.check("room A 13 x+x ; 1", 2)
        self.check("room a 13 x+x ; 1", 3)
        self.check("room a 12 x+x ; 1", 4)
        self.check("room a 12 x ; 1", 5)
        self.check("box a 101 102 5", 3)
        self.check("thing a b c Any -1 0", 5)
        self.check("at 0 a lend 0 41 101 x", 5)
        self.check("at -1 A lends", 2)

    def test_no_sort(self):
        for row in ("kinds wood 9 : 0 : 0 : 1", "Kind", "x", "events", ":", "none", "any", "move", "0", "row 1", "k"):
            self.check(row, 1)

    def test_blanks_and_nothing(self):
        for row in ("", " ", "  ", " " + KIND, KIND + " ", KIND.replace(" : ", "  : ", 1), " x", "x ", "x  y", " at",
                    EVENT + " ", "  " + EVENT):
            self.assertEqual(refused(read_archive, text(row, KIND)), (1, 0), row)
            self.assertEqual(refused(read_archive, text(KIND, row)), (2, 0), row)
            self.assertEqual(refused(read_event, row, 8), (8, 0), row)


class RowsAndSorts(unittest.TestCase):
    def check(self, rows, row, word=0):
        self.assertEqual(refused(read_archive, text(*rows)), (row, word), rows)

    def test_no_texts(self):
        for thing in NO_TEXTS:
            self.assertEqual(refused(read_archive, thing), (1, 0))

    def test_nothing_at_all(self):
        self.assertEqual(refused(read_archive, ""), (1, 0))

    def test_line_feeds_too_many(self):
        self.check(["", KIND, ROOM], 1)
        self.check([KIND, "", ROOM], 2)
        self.check([KIND, ROOM, ""], 3)
        self.check([KIND, ROOM, "", ""], 3)
        self.check(["", ""], 1)

    def test_a_sort_that_comes_too_late(self):
        rows = [KIND, ROOM, BOX, THING, EVENT]
        for place in range(1, 5):
            for late in range(place):
                self.check(rows[:place + 1] + [rows[late]], place + 2)
                # The row itself stands ahead of its other words.
                self.check(rows[:place + 1] + [rows[late].split(" ")[0]], place + 2)

    def test_one_too_many_of_a_sort(self):
        rows = [KIND, ROOM, BOX, THING, EVENT]
        for place, most in ((0, 6), (1, 6), (2, 4), (3, 12), (4, 40)):
            ahead = rows[:place] + [rows[place]] * most
            self.check(ahead + [rows[place]] + rows[place + 1:], len(ahead) + 1)
            self.check(ahead + [rows[place].split(" ")[0] + " X"], len(ahead) + 1)

    def test_no_kind_or_no_room(self):
        self.check([ROOM], 2)
        self.check([KIND], 2)
        self.check([KIND] * 6, 7)
        self.check([KIND, BOX, THING, EVENT], 5)
        self.check([ROOM, BOX, THING], 4)
        self.check([EVENT], 2)
        self.check([BOX], 2)

    def test_the_first_row_of_several(self):
        self.check(["kind A 9 : 0 : 0 : 1", "room B"], 1, 2)
        self.check([KIND, "room hall 13", "x", " "], 2, 3)
        self.check([KIND, ROOM, BOX, KIND, "box a 1"], 4, 0)
        self.check([ROOM, KIND], 2, 0)
        self.check([ROOM, "box a 1"], 2, 4)
        self.check([BOX, THING, "at 0 a"], 3, 4)
        self.check([KIND, ROOM, BOX, BOX, BOX, BOX, BOX, "x"], 7, 0)
        # A last row that cannot stand is told ahead of a room that lacks.
        self.check([KIND, "at"], 2, 2)


class Events(unittest.TestCase):
    def test_the_number_is_told(self):
        for number in (0, 1, 7, 1000000000, -3):
            self.assertEqual(refused(read_event, "at 0 a mend x", number), (number, 5))

    def test_no_texts(self):
        for thing in NO_TEXTS:
            self.assertEqual(refused(read_event, thing, 6), (6, 0))

    def test_rows_of_other_sorts(self):
        for row in (KIND, ROOM, BOX, THING, "put 0 a mend 0", "0 a mend 0", "At 0 a mend 0"):
            self.assertEqual(refused(read_event, row, 6), (6, 1), row)

    def test_several_rows(self):
        self.assertEqual(refused(read_event, EVENT + "\n" + EVENT, 6), (6, 5))
        self.assertEqual(refused(read_event, EVENT + "\n", 6), (6, 5))
        self.assertEqual(refused(read_event, "\n" + EVENT, 6), (6, 1))

    def test_an_event_is_a_tuple_with_a_tuple(self):
        event = read_event("at 3 bow lend 4 5 6", 1)
        self.assertIs(type(event), tuple)
        self.assertIs(type(event[2]), tuple)
        self.assertEqual(event, (3, "bow", ("lend", 4, 5, 6)))


class Own(unittest.TestCase):
    def test_each_archive_is_one_of_its_own(self):
        one, other = read_archive(TEXT), read_archive(TEXT)
        for rows in one.told():
            rows.clear()
        self.assertEqual(one.told(), five_lists())
        self.assertEqual(other.told(), five_lists())

    def test_tuples_within(self):
        for rows in read_archive(TEXT).told():
            for row in rows:
                for part in row:
                    self.assertNotIsInstance(part, list)

    def test_what_is_handed_in_is_not_changed(self):
        rows = [KIND, ROOM]
        self.assertEqual(refused(read_archive, rows), (1, 0))
        self.assertEqual(rows, [KIND, ROOM])


class Files(unittest.TestCase):
    def test_all_is_defined_in_its_file(self):
        for function in (read_archive, read_event):
            self.assertEqual(function.__module__, archiveread.__name__)


if __name__ == "__main__":
    unittest.main()
