"""The fate of a program under a contract, for the streams of every length (points 33 to 37, and 41)."""

from allmends.errors import TooLong
from allmends.refusals import refuse_change, refuse_mismatch, refuse_weight
from allmends.runs import MOST_STEPS, run_on
from allmends.silences import least_silence, quiet_ranks
from allmends.steps import Machine
from allmends.surveys import FAR, Survey


class Fate:
    """What becomes of a program with a change under a contract."""

    def __init__(self, word, stream, verdict, asked, paper, uses):
        self.word = word
        self.stream = stream
        self.verdict = verdict
        self.asked = asked
        self.paper = paper
        self.uses = uses


def decide(program, contract, change=None):
    """The fate of a program with a change, a draft or neither."""
    refuse_mismatch(program, contract)
    refuse_change(program, change)
    refuse_weight(program, contract)
    return fate_of(Machine(program, contract, change))


def fate_of(machine):
    """The fate of the program and the change that a machine has."""
    survey = Survey(machine)
    ranks = quiet_ranks(survey)
    wrong = [word for word in (survey.wrong, least_silence(survey, ranks)) if word is not None]
    uses = uses_of(survey)
    if wrong:
        stream = stream_of(min(wrong))
        return Fate("breaks", stream, run_on(machine, stream, MOST_STEPS).verdict, (), (), uses)
    asked = asked_in(survey)
    if asked:
        return Fate("asks", None, None, asked, (), uses)
    return Fate("keeps", None, None, (), paper_of(survey, ranks), uses)


def stream_of(word):
    """The stream that a word stands for."""
    if word == FAR:
        raise TooLong("stream")
    return tuple([int(letter) for letter in word[1]])


def asked_in(survey):
    """All entries that a run asks, in ascending order."""
    steps = [survey.machine.step(number) for number in survey.words]
    asked = {step.asked: True for step in steps if step.kind == "asks"}
    return tuple(sorted(asked))


def uses_of(survey):
    """What the runs use (point 37)."""
    entries = {}
    rows = {}
    flags = {}
    machine = survey.machine
    for number in survey.words:
        step = machine.step(number)
        state = machine.nodes[number][3]
        for entry in step.used:
            if not machine.choice.owns(entry[0]):
                entries[entry] = True
        for event, letters, target in step.ways:
            if event is not None:
                rows[(state, event)] = True
        if step.kind in ("quiet", "call", "end"):
            flags[("silence", state)] = True
        if step.kind == "end" and machine.is_main(number):
            flags[("finish", state)] = True
    return (tuple(sorted(entries)), tuple(sorted(rows)), tuple(sorted(flags)))


def paper_of(survey, ranks):
    """The paper of point 41, where the ranks are those of the nodes in states that may not be silent."""
    rows = []
    for first, walk in survey.walks.items():
        rows.append((survey.machine.opening_at(first), tuple(sorted(walk.endings)), ranks.get(first, 0)))
    return tuple(sorted(rows))
