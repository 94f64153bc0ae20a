"""All that plays in free play can come to, call by call."""


class Arena:
    """The nodes of calls with one opening, whatever is chosen and read.

    `before` has for each node the nodes of the same call that can lead to it, `outcomes` has the outcomes
    of such calls.
    """

    def __init__(self, first):
        self.first = first
        self.before = {first: {}}
        self.outcomes = {}
        self.callers = []


class Arenas:
    """The arenas of all calls that plays can begin, by the numbers of their first nodes."""

    def __init__(self, free):
        self._free = free
        self._arenas = {}
        self._waiting = []
        self.main = self._entered(free.machine.first_node(free.machine.main_opening()))
        while self._waiting:
            arena, number = self._waiting.pop()
            self._visit(arena, number)

    def at(self, first):
        """The arena of the calls that have this first node."""
        return self._arenas[first]

    def _entered(self, first):
        if first not in self._arenas:
            self._arenas[first] = Arena(first)
            self._waiting.append((self._arenas[first], first))
        return self._arenas[first]

    def _visit(self, arena, number):
        for values in self._free.choices(number):
            step = self._free.step(number, values)
            if step.kind == "call":
                self._call(arena, number, self._entered(step.callee))
            if step.kind == "end" and not self._free.machine.is_main(number):
                self._end(arena, self._free.outcome_at(number))
            for event, letters, target in step.ways:
                if target is not None:
                    self._link(arena, number, target)

    def _call(self, arena, number, callee):
        callee.callers.append((arena, number))
        for outcome in callee.outcomes:
            self._link(arena, number, self._free.machine.behind_call(number, outcome))

    def _end(self, arena, outcome):
        if outcome not in arena.outcomes:
            arena.outcomes[outcome] = True
            for caller, number in arena.callers:
                self._link(caller, number, self._free.machine.behind_call(number, outcome))

    def _link(self, arena, number, target):
        if target not in arena.before:
            arena.before[target] = {}
            self._waiting.append((arena, target))
        arena.before[target][number] = True
