"""Whole numbers, names, and the words of a row."""

LETTERS = "abcdefghijklmnopqrstuvwxyz"
MOST_LETTERS = 8
FIGURES = "0123456789"
MOST_FIGURES = 10

# Each of these has a meaning of its own in a row of a text.
NO_NAMES = ("any", "none", "at", "move", "box", "lend", "mend")


def is_whole(thing):
    """Whether a thing, of any kind, is a whole number."""
    return isinstance(thing, int) and not isinstance(thing, bool)


def is_among(thing, least, most):
    """Whether a thing is a whole number from the least to the most, both ends in."""
    if not is_whole(thing) or not is_whole(least) or not is_whole(most):
        return False
    return least <= thing <= most


def is_name(thing):
    """Whether a thing, of any kind, is a name."""
    if not isinstance(thing, str) or not 1 <= len(thing) <= MOST_LETTERS:
        return False
    return _has_only(thing, LETTERS) and thing not in NO_NAMES


def number_of(word):
    """The number that a word tells, or None where it tells none."""
    if not isinstance(word, str):
        return None
    figures = word.removeprefix("-")
    if not 1 <= len(figures) <= MOST_FIGURES or not _has_only(figures, FIGURES):
        return None
    # Only 0 itself begins with a 0, so -0 is no number.
    if figures.startswith("0") and word != "0":
        return None
    return int(word)


def words_of(row):
    """The words of a row, or None where not just one blank stands between words."""
    if not isinstance(row, str):
        return None
    words = row.split(" ")
    # A blank too many leaves an empty word, and so does a row of nothing.
    if "" in words:
        return None
    return words


def _has_only(text, signs):
    # Signs are looked up, as isdigit and islower take those of other scripts too.
    return all([sign in signs for sign in text])
