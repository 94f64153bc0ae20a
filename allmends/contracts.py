"""Contracts: which events are right in which state (points 17 to 21, and 70)."""

from allmends.errors import InvalidContract, Mismatch, TooLarge
from allmends.forms import frozen
from allmends.letters import letters_reason

MOST_STATES = 8


class Contract:
    """A contract that keeps the rules of point 19."""

    def __init__(self, letters, answers, states):
        reason = first_reason(letters, answers, states)
        if reason:
            raise InvalidContract(reason)
        self.letters = letters
        self.answers = answers
        self.states = frozen(states)

    def follow(self, state, event):
        """The target of an event in a state."""
        row = self.states[state]
        if event[0] == "over":
            return row[1]
        targets = row[0] if event[0] == "read" else row[2]
        return targets[event[1]]

    def with_row(self, state, event, target):
        """The contract with another target for an event in a state."""
        reads, over, writes, finish, silence = self.states[state]
        if event[0] == "over":
            over = target
        elif event[0] == "read":
            reads = with_item(reads, event[1], target)
        else:
            writes = with_item(writes, event[1], target)
        return self.with_state(state, (reads, over, writes, finish, silence))

    def with_flags(self, state, *, finish=None, silence=None):
        """The contract with other flags of a state; None leaves a flag as it is."""
        reads, over, writes, old_finish, old_silence = self.states[state]
        new_finish = old_finish if finish is None else finish
        new_silence = old_silence if silence is None else silence
        return self.with_state(state, (reads, over, writes, new_finish, new_silence))

    def with_state(self, state, row):
        """The contract with another row for a state."""
        return Contract(self.letters, self.answers, with_item(self.states, state, row))


def with_item(items, index, item):
    """A list of the items with another one at the index."""
    found = list(items)
    found[index] = item
    return found


def first_reason(letters, answers, states):
    """The first reason of point 19 to refuse a contract, or the empty string."""
    return letters_reason(letters, answers) or states_reason(letters, answers, states)


def states_reason(letters, answers, states):
    """The first reason that the states give, or the empty string."""
    if not 1 <= len(states) <= MOST_STATES:
        return "states"
    if any([len(row[0]) != letters or len(row[2]) != answers for row in states]):
        return "rows"
    targets = [target for row in states for target in list(row[0]) + [row[1]] + list(row[2])]
    if any([target is not None and not 0 <= target < len(states) for target in targets]):
        return "target"
    return ""


def events_of(contract):
    """All events with letters of the contract, in ascending order."""
    reads = [("read", letter) for letter in range(contract.letters)]
    writes = [("write", letter) for letter in range(contract.answers)]
    return [("over",)] + reads + writes


def both(first, second):
    """The contract that is kept exactly by what keeps both (point 21)."""
    if first.letters != second.letters or first.answers != second.answers:
        raise Mismatch("the contracts differ in their letters")
    pairs = reached_pairs(first, second)
    return Contract(first.letters, first.answers, [pair_row(first, second, pairs, pair) for pair in pairs])


def reached_pairs(first, second):
    """The pairs of states that can be reached from (0, 0), in the order in which they are met."""
    pairs = [(0, 0)]
    done = 0
    while done < len(pairs):
        for event in events_of(first):
            target = pair_target(first, second, pairs[done], event)
            if target is not None and target not in pairs:
                if len(pairs) == MOST_STATES:
                    raise TooLarge("states")
                pairs.append(target)
        done += 1
    return pairs


def pair_target(first, second, pair, event):
    """The pair of the two targets of an event, or None if one of them is None."""
    one = first.follow(pair[0], event)
    other = second.follow(pair[1], event)
    return None if one is None or other is None else (one, other)


def pair_row(first, second, pairs, pair):
    """The row of the state that stands for a pair; the states are numbered as in `pairs`."""
    targets = []
    for event in events_of(first):
        target = pair_target(first, second, pair, event)
        targets.append(None if target is None else pairs.index(target))
    behind = 1 + first.letters
    finish, silence = [
        one and other for one, other in zip(first.states[pair[0]][3:], second.states[pair[1]][3:])
    ]
    return (targets[1:behind], targets[0], targets[behind:], finish, silence)
