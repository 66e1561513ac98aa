"""A row of a text, read word by word."""

from lastingly.errors import BadRow
from lastingly.words import is_among, is_name, number_of, words_of


class Row:
    """The words of a row: so many are behind, the others still ahead."""

    def __init__(self, text, number):
        words = words_of(text)
        if words is None:
            raise BadRow(number, 0)
        self.words = words
        self.number = number
        self.behind = 0

    def refuse(self):
        """Refuses the row by its next word, also where that one lacks."""
        raise BadRow(self.number, self.behind + 1)

    def next_word(self):
        """The next word; where words lack an empty text, which is no word of any row."""
        if self.behind < len(self.words):
            return self.words[self.behind]
        return ""

    def passes(self, word):
        """Whether the next word is the told one; if so, it is behind from now on."""
        if self.next_word() != word:
            return False
        self.behind += 1
        return True

    def need_word(self, word):
        """The next word is the told one, or the row is refused."""
        if not self.passes(word):
            self.refuse()

    def need_name(self):
        """The name that comes next."""
        name = self.next_word()
        if not is_name(name):
            self.refuse()
        self.behind += 1
        return name

    def need_number(self, least, most):
        """The number that comes next, from the least to the most."""
        number = number_of(self.next_word())
        if not is_among(number, least, most):
            self.refuse()
        self.behind += 1
        return number

    def need_names(self, most):
        """The unlike names, up to so many, that come next in one word with + between."""
        names = self.next_word().split("+")
        if len(names) > most or len(set(names)) < len(names) or not all([is_name(name) for name in names]):
            self.refuse()
        self.behind += 1
        return tuple(names)

    def need_end(self):
        """No word is left, or the row is refused."""
        if self.behind < len(self.words):
            self.refuse()
