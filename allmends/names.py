"""Names, keywords and the characters that make them (point 6)."""

LETTERS = "abcdefghijklmnopqrstuvwxyz"
DIGITS = "0123456789"
WORD_CHARACTERS = "abcdefghijklmnopqrstuvwxyz0123456789"
LONGEST_NAME = 8
KEYWORDS = (
    "letters", "answers", "global", "proc", "local", "read", "write", "if", "then",
    "else", "while", "do", "call", "skip", "end", "and", "or", "not",
)


def is_name(text):
    """True if the text is a name as in point 6."""
    if not 1 <= len(text) <= LONGEST_NAME or text[0] not in LETTERS:
        return False
    return text not in KEYWORDS and all([character in WORD_CHARACTERS for character in text])
