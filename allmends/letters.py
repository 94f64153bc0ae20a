"""How many input letters and output letters there may be (points 3 and 19)."""

MOST_LETTERS = 3
LEAST_ANSWERS = 2
MOST_ANSWERS = 4


def letters_reason(letters, answers):
    """The reason to refuse these numbers of input and output letters, or the empty string."""
    if not 1 <= letters <= MOST_LETTERS:
        return "letters"
    if not LEAST_ANSWERS <= answers <= MOST_ANSWERS:
        return "answers"
    return ""
