"""What the runs on all streams come to, found call by call (points 33 to 37).

A word is what a run takes on its way, as a pair of the number and the string of its letters, so that
words are ordered as streams are. All words that are longer than any stream that is told are one, `FAR`.
"""

from heapq import heappop, heappush

LONGEST_STREAM = 200
NO_LETTERS = (0, "")
# One letter more than the longest stream that is told.
FAR = (201, "")


class Walk:
    """The nodes that calls with one opening come to, and how these calls end."""

    def __init__(self, first, start):
        self.first = first
        self.start = start
        self.pairs = {}
        self.endings = {}
        self.callers = []


class Survey:
    """The walks of all calls that runs of a machine make.

    `walks` has them by the numbers of their first nodes. `words` has for each node that a run comes to
    the least word on the way to it. `wrong` is the least word that leads to an event or an end of the
    main procedure that breaks the contract, or None.
    """

    def __init__(self, machine):
        self.machine = machine
        self.walks = {}
        self.words = {}
        self.wrong = None
        self._heap = []
        self._waiting = {}
        self._begin(machine.first_node(machine.main_opening()), NO_LETTERS)
        self._explore()

    def _explore(self):
        # A way to a call's end is never shorter than the way to its begin, so that the least words come first.
        while self._heap:
            word = heappop(self._heap)
            waiting = self._waiting[word]
            while waiting:
                walk, number, quiet = waiting.pop()
                if (number, quiet) not in walk.pairs:
                    walk.pairs[(number, quiet)] = True
                    self._visit(walk, number, quiet, word)
            del self._waiting[word]

    def _begin(self, first, word):
        walk = Walk(first, word)
        self.walks[first] = walk
        self._wait(walk, first, True, word)

    def _wait(self, walk, number, quiet, word):
        if (number, quiet) in walk.pairs:
            return
        if word not in self._waiting:
            self._waiting[word] = []
            heappush(self._heap, word)
        self._waiting[word].append((walk, number, quiet))

    def _visit(self, walk, number, quiet, word):
        if number not in self.words:
            self.words[number] = word
        step = self.machine.step(number)
        if step.kind == "call":
            self._enter(walk, number, quiet, word, step.callee)
        elif step.kind == "end":
            self._leave(walk, number, quiet, word)
        for event, letters, target in step.ways:
            behind = longer(word, (len(letters), letters))
            if target is None:
                self._note(behind)
            else:
                self._wait(walk, target, quiet and event is None, behind)

    def _enter(self, walk, number, quiet, word, callee):
        if callee not in self.walks:
            self._begin(callee, word)
        called = self.walks[callee]
        called.callers.append((walk, number, quiet, word))
        for ending, rest in called.endings.items():
            self._return(walk, number, quiet, longer(word, rest), ending)

    def _leave(self, walk, number, quiet, word):
        if self.machine.is_main(number):
            if not self.machine.may_finish(number):
                self._note(word)
            return
        ending = self.machine.ending_at(number, quiet)
        if ending not in walk.endings:
            rest = behind_start(walk.start, word)
            walk.endings[ending] = rest
            for caller, at, was_quiet, before in walk.callers:
                self._return(caller, at, was_quiet, longer(before, rest), ending)

    def _return(self, walk, number, quiet, word, ending):
        self._wait(walk, self.machine.behind_call(number, ending), quiet and ending[3], word)

    def _note(self, word):
        if self.wrong is None or word < self.wrong:
            self.wrong = word


def longer(word, rest):
    """A word with another one behind it."""
    if rest == NO_LETTERS:
        return word
    if word[0] + rest[0] > LONGEST_STREAM:
        return FAR
    return (word[0] + rest[0], word[1] + rest[1])


def behind_start(start, word):
    """What stands in a word behind its start."""
    if word == FAR:
        return FAR
    return (word[0] - start[0], word[1][start[0]:])
