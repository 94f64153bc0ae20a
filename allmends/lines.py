"""The lines of written claims (points 74 and 75)."""

from allmends.names import DIGITS

LONGEST_NUMBER = 4
KINDS = {"bad event": "event", "bad finish": "finish", "bad silence": "silence"}
VERDICTS = {"event": "bad event", "finish": "bad finish", "silence": "bad silence"}


def written(words):
    """The line of some words; numbers are written in digits, truth values as 1 and 0."""
    return " ".join([word if isinstance(word, str) else str(int(word)) for word in words]) + "\n"


def head_line(claim):
    """The first line of a claim."""
    return written(["enough" if claim.enough else "refuted", *claim.places])


def entry_line(triple):
    """The line of a triple of a change."""
    place, sight, value = triple
    return written(["entry", place, value, *sight])


def paper_lines(row):
    """The lines of a row of a paper."""
    (procedure, sight, state, over), endings, rank = row
    lines = [written(["call", procedure, state, over, rank, *sight])]
    for values, end_state, end_over, quiet in endings:
        lines.append(written(["ending", end_state, end_over, quiet, *values]))
    return lines


def tree_line(row):
    """The line of a row of a tree."""
    if row[0] == "ask":
        word, place, sight, children = row
        return written(["ask", place, *children, "at", *sight])
    word, stream, verdict = row
    return written(["breaks", KINDS[verdict], *stream])


def read_line(line):
    """A pair of the word and the value that a line writes, or None if it has none of the forms.

    The value is that of the places, a triple of an entry, a row of a paper without endings, an ending,
    or a row of a tree.
    """
    word, *rest = line.split(" ")
    if word == "ask":
        return read_ask(rest)
    if word == "breaks":
        return read_breaks(rest)
    if not all([is_number(part) for part in rest]):
        return None
    numbers = tuple([int(part) for part in rest])
    if word in ("enough", "refuted"):
        return (word, numbers)
    if word == "entry" and len(numbers) >= 2:
        return (word, (numbers[0], numbers[2:], numbers[1]))
    if word == "call" and len(numbers) >= 4 and is_truth(numbers[2]):
        return (word, ((numbers[0], numbers[4:], numbers[1], numbers[2] == 1), numbers[3]))
    if word == "ending" and len(numbers) >= 3 and is_truth(numbers[1]) and is_truth(numbers[2]):
        return (word, (numbers[3:], numbers[0], numbers[1] == 1, numbers[2] == 1))
    return None


def read_ask(rest):
    """What the words of an ask line behind its first one write, or None."""
    if "at" not in rest:
        return None
    middle = rest.index("at")
    parts = rest[:middle] + rest[middle + 1:]
    if middle == 0 or not all([is_number(part) for part in parts]):
        return None
    place, *children = [int(part) for part in rest[:middle]]
    return ("ask", ("ask", place, tuple([int(part) for part in rest[middle + 1:]]), tuple(children)))


def read_breaks(rest):
    """What the words of a breaks line behind its first one write, or None."""
    if not rest or rest[0] not in VERDICTS or not all([is_number(part) for part in rest[1:]]):
        return None
    return ("breaks", ("breaks", tuple([int(part) for part in rest[1:]]), VERDICTS[rest[0]]))


def is_number(word):
    """True if a word is a number of at most four digits, without a leading zero."""
    if not 1 <= len(word) <= LONGEST_NUMBER or not all([digit in DIGITS for digit in word]):
        return False
    return word == "0" or word[0] != "0"


def is_truth(number):
    """True if a number stands for a truth value."""
    return number in (0, 1)
