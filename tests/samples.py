"""An archive of every sort of row, as five lists and as a text, for several tests."""

TEXT = """\
kind wood 1000000000 : 0 20 40 : 10 90 : 0 5 / 1 6 / 2 1000
kind iron 1 : 15 : 50 : 7
room hall 12 any : 0 18 50 , 6 ? 60 , 23 20 ? : 0 -40 100 , 364 40 -100
room loft 0 wood+iron : 0 ? ? : none
box chest 40 60
box case 50 50
thing saw iron hall none 0
thing bow wood loft chest 1000000000
at 0 saw move loft
at 5 saw box case
at 5 saw box none
at 9 bow lend 24 0 100
at 1000000000 bow mend 0"""


def kinds():
    return [
        ("wood", 1000000000, (0, 20, 40), (10, 90), ((0, 5), (1, 6), (2, 1000))),
        ("iron", 1, (15,), (50,), ((7,),)),
    ]


def rooms():
    return [
        ("hall", 12, (), ((0, 18, 50), (6, None, 60), (23, 20, None)), ((0, -40, 100), (364, 40, -100))),
        ("loft", 0, ("wood", "iron"), ((0, None, None),), ()),
    ]


def boxes():
    return [("chest", 40, 60), ("case", 50, 50)]


def things():
    return [("saw", "iron", "hall", "", 0), ("bow", "wood", "loft", "chest", 1000000000)]


def events():
    return [
        (0, "saw", ("move", "loft")),
        (5, "saw", ("box", "case")),
        (5, "saw", ("box", "")),
        (9, "bow", ("lend", 24, 0, 100)),
        (1000000000, "bow", ("mend", 0)),
    ]


def five_lists():
    return kinds(), rooms(), boxes(), things(), events()
