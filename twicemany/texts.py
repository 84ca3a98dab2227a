"""Texts, and the words into which they fall ([60])."""

from twicemany.errors import BadText, TooDeep
from twicemany.schemas import FIGURES, SMALL_LETTERS, is_name

LONGEST_TEXT = 20000
MOST_FIGURES = 7
MOST_BRACKETS = 12
# The sign of this code cannot stand in a text.
BARRED_CODE = 37


def check_text(thing):
    """Refuse what is no text, a sign that cannot stand in one, and one too many."""
    if not isinstance(thing, str):
        raise BadText(-1)
    for index, sign in enumerate(thing):
        if index == LONGEST_TEXT or not 32 <= ord(sign) <= 126 or ord(sign) == BARRED_CODE:
            raise BadText(index)


def words_of(text):
    """The words of a text, each with its place."""
    found = []
    at = 0
    while at < len(text):
        behind = word_end(text, at)
        if text[at] != " ":
            found.append((at, text[at:behind]))
        at = behind
    return found


def word_end(text, at):
    """The place behind the word, or the blank, that stands at a place."""
    behind = at
    while behind < len(text) and (text[behind] in SMALL_LETTERS or text[behind] in FIGURES):
        behind += 1
    if behind > at:
        return behind
    return at + 2 if text[at:at + 2] == ":=" else at + 1


def tells_number(word):
    """Whether a word is a figure word."""
    if not 1 <= len(word) <= MOST_FIGURES or not all([sign in FIGURES for sign in word]):
        return False
    return word == "0" or word[0] != "0"


class Words:
    """The words of a text, read from the left; each is refused where it cannot stand."""

    def __init__(self, text):
        check_text(text)
        # Behind the last word stands one without signs, at the end of the text.
        self.found = words_of(text) + [(len(text), "")]
        self.at = 0
        self.brackets = 0

    def word(self):
        """The next word; the one without signs at the end of the text."""
        return self.found[self.at][1]

    def place(self):
        """The place of the next word."""
        return self.found[self.at][0]

    def go_on(self):
        """Go on to the word behind the next one."""
        self.at += 1

    def take(self, words):
        """Go on behind the next word, which has to be one of these; return it."""
        word = self.word()
        if word not in words:
            raise BadText(self.place())
        self.go_on()
        return word

    def take_name(self):
        """Go on behind a name; return it."""
        word = self.word()
        if not is_name(word):
            raise BadText(self.place())
        self.go_on()
        return word

    def take_number(self):
        """Go on behind a figure word; return its number."""
        word = self.word()
        if not tells_number(word):
            raise BadText(self.place())
        self.go_on()
        return int(word)

    def take_end(self):
        """Refuse a word that stands where the text has to end."""
        if self.word() != "":
            raise BadText(self.place())

    def take_bracket(self):
        """Go on behind a bracket of a number or a test, which is open from now on."""
        if self.brackets == MOST_BRACKETS:
            raise TooDeep(self.place())
        self.brackets += 1
        self.go_on()

    def take_closing(self, word):
        """Go on behind the word that closes the last bracket."""
        self.take((word,))
        self.brackets -= 1

    def listed(self, sign, read_one):
        """One or more things with this sign between them; read_one is told how many stand ahead."""
        found = [read_one(0)]
        while self.word() == sign:
            self.go_on()
            found.append(read_one(len(found)))
        return tuple(found)
