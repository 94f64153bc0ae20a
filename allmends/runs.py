"""Runs of a program on one stream (points 28 to 32)."""

from allmends.errors import InvalidStream, TooLong
from allmends.refusals import refuse_change, refuse_mismatch
from allmends.steps import Machine

MOST_LETTERS_TAKEN = 400
# So many steps a run on a stream that breaks may make, where a question looks for it.
MOST_STEPS = 5000


class Run:
    """What a run on a stream did."""

    def __init__(self, verdict, events, met, asked, state, taken, steps):
        self.verdict = verdict
        self.breaks = verdict in ("bad event", "bad finish", "bad silence")
        self.events = events
        self.met = met
        self.asked = asked
        self.state = state
        self.taken = taken
        self.steps = steps


def run(program, contract, stream, change=None, *, steps=5000):
    """The run of a program, with a change, a draft or neither, on a stream."""
    refuse_mismatch(program, contract)
    refuse_change(program, change)
    if len(stream) > MOST_LETTERS_TAKEN or not all([0 <= letter < program.letters for letter in stream]):
        raise InvalidStream("the stream is too long or has something that is not an input letter")
    return run_on(Machine(program, contract, change), stream, steps)


def run_on(machine, stream, most_steps):
    """The run of a machine on a stream; raises TooLong if it does not stop after so many steps."""
    found = run_within(machine, stream, most_steps)
    if found is None:
        raise TooLong("run")
    return found


def run_within(machine, stream, most_steps):
    """The run of a machine on a stream, or None if it does not stop after so many steps."""
    course = Course(machine, stream)
    verdict = course.verdict_here()
    while verdict == "":
        if course.steps == most_steps:
            return None
        verdict = course.go() or course.verdict_here()
    return course.told(verdict)


class Course:
    """A run on its way."""

    def __init__(self, machine, stream):
        self.machine = machine
        self.stream = tuple(stream)
        self.at = machine.first_node(machine.main_opening())
        self.events = []
        self.met = {}
        self.taken = 0
        self.steps = 0
        # The nodes of the open calls, the outermost first, and for each open call a number of its own.
        self._callers = []
        self._calls = [0]
        self._begun = 1
        self._marks = {}

    def verdict_here(self):
        """The verdict of a run that stops at this moment before its step, otherwise the empty string."""
        repeated = self._repeated()
        if repeated:
            return repeated
        step = self.machine.step(self.at)
        if step.kind != "asks":
            return ""
        self._meet(step)
        return "asks"

    def _repeated(self):
        mark = self._marks.get(self.at)
        depth = len(self._calls) - 1
        if mark is None or not self._counts(mark):
            self._marks[self.at] = (self.taken, depth, self._calls[depth], len(self.events))
            return ""
        # With as many letters taken and the same node, the events between can only be letters written.
        if len(self.events) > mark[3]:
            return "endless"
        return "silent" if self.machine.may_be_silent(self.at) else "bad silence"

    def _counts(self, mark):
        taken, depth, call, events = mark
        return taken == self.taken and depth < len(self._calls) and call == self._calls[depth]

    def _meet(self, step):
        for entry in step.used:
            self.met[entry] = True

    def go(self):
        """Makes a step and returns the verdict of a run that it stops, otherwise the empty string."""
        step = self.machine.step(self.at)
        self.steps += 1
        self._meet(step)
        if step.kind == "call":
            self._callers.append(self.at)
            self._calls.append(self._begun)
            self._begun += 1
            self.at = step.callee
            return ""
        if step.kind == "end":
            return self._end()
        return self._take(step)

    def _end(self):
        if not self._callers:
            return "finished" if self.machine.may_finish(self.at) else "bad finish"
        self._calls.pop()
        # Whether an event happened in the call makes no difference to where its caller goes on.
        self.at = self.machine.behind_call(self._callers.pop(), self.machine.ending_at(self.at, False))
        return ""

    def _take(self, step):
        event, letters, target = step.ways[self._chosen(step)]
        if event is not None:
            self.events.append(event)
        if letters:
            self.taken += 1
        if target is None:
            return "bad event"
        self.at = target
        return ""

    def _chosen(self, step):
        """The index of the way that the step takes: a read has one for each letter and a last one."""
        if len(step.ways) > 1 and self.taken < len(self.stream):
            return self.stream[self.taken]
        return len(step.ways) - 1

    def told(self, verdict):
        """What the run did, which stopped with this verdict."""
        asked = self.machine.step(self.at).asked
        state = self.machine.nodes[self.at][3]
        return Run(verdict, tuple(self.events), tuple(self.met), asked, state, self.taken, self.steps)
