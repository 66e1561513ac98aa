"""Lines for a desk, read word by word."""

from lastingly.archiveread import read_event
from lastingly.errors import BadRow
from lastingly.words import number_of, words_of

# What stands behind the first word of a line.
FORMS = {
    "shares": (),
    "share": ("name",),
    "worst": (),
    "bounds": ("name",),
    "when": ("name", "share"),
    "text": (),
    "plan": ("number", "number"),
    "hour": ("number",),
    "take": ("number",),
    "read": ("name", "number", "reading", "reading"),
    "wear": ("name", "number", "number", "number"),
    "undo": (),
}


def parts_of(line):
    """The first word of a line, and what stands behind it; or None of what is no line, of anything."""
    words = words_of(line)
    if words is None or "\n" in line:
        return None
    word = words[0]
    if word == "put":
        return _parts_of_put(words)
    if word == "better":
        return _parts_of_better(words)
    if word not in FORMS:
        return None
    return _parts_by(FORMS[word], words)


def _parts_by(forms, words):
    if len(words) != len(forms) + 1:
        return None
    parts = [words[0]]
    for form, word in zip(forms, words[1:]):
        # What lacks is a part of a line as well, so that None is a part here and no refusal.
        if form == "reading" and word == "?":
            parts.append(None)
            continue
        part = _part_of(form, word)
        if part is None:
            return None
        parts.append(part)
    return parts


def _parts_of_put(words):
    parts = _parts_by(("number",), words[:2])
    if parts is None:
        return None
    try:
        return parts + [read_event(" ".join(words[2:]), 1)]
    except BadRow:
        return None


def _parts_of_better(words):
    parts = _parts_by(("number", "number"), words[:3])
    return None if parts is None else parts + [words[3:]]


def _part_of(form, word):
    """What a word tells by its form, or None."""
    if form == "name":
        return word
    if form == "share":
        return _share_of(word)
    return number_of(word)


def _share_of(word):
    numbers = [number_of(part) for part in word.split("/")]
    if len(numbers) != 2 or None in numbers:
        return None
    return numbers[0], numbers[1]
