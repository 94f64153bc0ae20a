"""Cuts texts into tokens and takes these from left to right (points 12 and 14)."""

from allmends.errors import InvalidText
from allmends.names import DIGITS, KEYWORDS, LETTERS, WORD_CHARACTERS

LONGEST_TEXT = 4000
LONGEST_NUMBER = 4
BLANKS = " \n"


class Reader:
    """Takes the tokens of a text one by one; the first that does not fit raises InvalidText."""

    def __init__(self, text):
        if len(text) > LONGEST_TEXT:
            raise InvalidText(LONGEST_TEXT)
        self._tokens = tokens_of(text)
        self._index = 0

    def here(self):
        """The position of the token that comes next, or the length of the text behind its last one."""
        return self._tokens[self._index][2]

    def sees(self, word):
        """True if this word or sign comes next."""
        return self._tokens[self._index][1] == word

    def sees_number(self):
        """True if a number comes next."""
        return self._tokens[self._index][0] == "number"

    def take(self, word):
        """Take this word or sign if it comes next, and tell if it did."""
        found = self.sees(word)
        if found:
            self._index += 1
        return found

    def need(self, word):
        """Take this word or sign; nothing else fits."""
        if not self.take(word):
            raise InvalidText(self.here())

    def need_name(self):
        """Take a name of any length and return it; nothing else fits."""
        kind, word, position = self._tokens[self._index]
        if kind != "word" or word in KEYWORDS:
            raise InvalidText(position)
        self._index += 1
        return word

    def need_number(self):
        """Take a number and return it as an integer; nothing else fits."""
        if not self.sees_number():
            raise InvalidText(self.here())
        number = int(self._tokens[self._index][1])
        self._index += 1
        return number

    def need_end(self):
        """Nothing but the end of the text fits."""
        if self._tokens[self._index][0] != "end":
            raise InvalidText(self.here())

    def need_head(self):
        """Take the beginning of every text, and return its two numbers, the letters and the answers."""
        self.need("letters")
        letters = self.need_number()
        self.need("answers")
        return letters, self.need_number()


def tokens_of(text):
    """Triples (kind, characters, position), the last one for the end of the text.

    The kinds are "word", "number", "other" and "end".
    """
    tokens = []
    position = 0
    while position < len(text):
        if text[position] in BLANKS:
            position += 1
        else:
            kind, behind = token_at(text, position)
            tokens.append((kind, text[position:behind], position))
            position = behind
    return tokens + [("end", "", len(text))]


def token_at(text, position):
    """The kind of the token that begins at the position, and the position behind it.

    What begins no token and a number that is not allowed are tokens too, which nothing
    asks for: so they are refused only when everything before them was read.
    """
    first = text[position]
    if first in LETTERS:
        return "word", run_end(text, position, WORD_CHARACTERS)
    if first in DIGITS:
        behind = run_end(text, position, DIGITS)
        many = behind - position
        fits = many == 1 or (first != "0" and many <= LONGEST_NUMBER)
        return "number" if fits else "other", behind
    many = 2 if text[position:position + 2] == "==" else 1
    return "other", position + many


def run_end(text, position, characters):
    """The position behind the characters of this kind that stand at a position."""
    behind = position
    while behind < len(text) and text[behind] in characters:
        behind += 1
    return behind
