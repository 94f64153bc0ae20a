"""The texts of contracts (points 22 and 23)."""

from allmends.contracts import Contract
from allmends.errors import InvalidText
from allmends.letters import MOST_ANSWERS, MOST_LETTERS
from allmends.tokens import Reader


def parse_contract(text):
    """The contract that a text writes."""
    reader = Reader(text)
    letters, answers = reader.need_head()
    states = []
    while reader.take("state"):
        states.append(read_state(reader, letters, answers))
    reader.need_end()
    return Contract(letters, answers, states)


def read_state(reader, letters, answers):
    """Read what follows the word `state`."""
    finish = reader.take("finish")
    silence = reader.take("silent")
    rows = read_rows(reader)
    # More letters than these are refused by their number alone, however long the rows are.
    reads = targets_of(rows, "read", min(letters, MOST_LETTERS))
    writes = targets_of(rows, "write", min(answers, MOST_ANSWERS))
    return (reads, rows.get(("over",)), writes, finish, silence)


def read_rows(reader):
    """Read the rows of a state: a dict of events and their targets."""
    rows = {}
    while reader.sees("over") or reader.sees("read") or reader.sees("write"):
        position = reader.here()
        event = read_event(reader)
        if event in rows:
            raise InvalidText(position)
        reader.need("to")
        rows[event] = reader.need_number()
    return rows


def read_event(reader):
    """Read the event of a row."""
    if reader.take("over"):
        return ("over",)
    if reader.take("read"):
        return ("read", reader.need_number())
    reader.need("write")
    return ("write", reader.need_number())


def targets_of(rows, word, many):
    """The targets of the letters, and behind them those of letters that do not exist.

    So the contract finds too many targets for a row with such a letter.
    """
    known = [rows.get((word, letter)) for letter in range(many)]
    return known + [rows[event] for event in rows if event[0] == word and event[1] >= many]


def print_contract(contract):
    """The text of a contract."""
    lines = [f"letters {contract.letters}", f"answers {contract.answers}"]
    for state in contract.states:
        lines.extend(state_lines(state))
    return "".join([f"{line}\n" for line in lines])


def state_lines(state):
    """The lines of a state."""
    reads, over, writes, finish, silence = state
    flags = (" finish" if finish else "") + (" silent" if silence else "")
    over_lines = [] if over is None else [f"  over to {over}"]
    return [f"state{flags}"] + over_lines + letter_lines("read", reads) + letter_lines("write", writes)


def letter_lines(word, targets):
    """The lines of the rows of all letters that have a target."""
    return [f"  {word} {letter} to {target}" for letter, target in enumerate(targets) if target is not None]
