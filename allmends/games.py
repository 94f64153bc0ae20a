"""Who wins free play: the nodes at which the mender loses, found one after the other (point 64)."""

from heapq import heappop, heappush

from allmends.arenas import Arenas


class Board:
    """The play in calls with one opening, where the mender also loses if they end with a forbidden outcome.

    `forbidden` has a bit for each such outcome. `lost` has for each node that is known to be lost the number
    of its row. `watchers` has the calls, as pairs of a board's number and a node, for which it counts whether
    the first node is lost.
    """

    def __init__(self, number, arena, forbidden):
        self.number = number
        self.arena = arena
        self.forbidden = forbidden
        self.lost = {}
        self.watchers = {}

    def is_lost(self):
        """True if the first node is lost."""
        return self.arena.first in self.lost


class Game:
    """The boards that were needed to find out who wins.

    `rows` has a triple (board, node, reasons) for each lost node, in the order in which they were found;
    the reasons name rows by their numbers, as in a spoiling.
    """

    def __init__(self, free):
        self.free = free
        self.rows = []
        self._arenas = Arenas(free)
        self._bits = {}
        self._boards = []
        self._by_first = {}
        self._waiting = []
        self._waiting_calls = []
        self.main = self._begun(self._arenas.main.first, 0)
        self._find_lost()

    def outcomes_in(self, arena, mask):
        """Those outcomes of an arena that have a bit in a mask, in ascending order."""
        return tuple([outcome for outcome in sorted(arena.outcomes) if self._bit(outcome) & mask])

    def allowed_on(self, board):
        """The outcomes that calls on a board can have and that are not forbidden there."""
        forbidden = self.outcomes_in(board.arena, board.forbidden)
        return tuple([outcome for outcome in sorted(board.arena.outcomes) if outcome not in forbidden])

    def reason(self, board, number, step):
        """A reason why the mender loses by a step at a node, or None if none is known."""
        if step.kind == "call":
            return self._call_reason(board, number, step.callee)
        if step.kind == "end":
            return self._end_reason(board, number)
        for event, letters, target in step.ways:
            if target is None:
                return ("bad", event)
            if target in board.lost:
                return ("go", event, board.lost[target])
        return None

    def board_behind(self, board, number, callee):
        """A board that is not lost, and where all is forbidden behind which the mender loses; None if there is none."""
        mask = self._mask_of(self._lost_behind(board, number, callee))
        for called in self._by_first.get(callee, ()):
            if called.forbidden & mask == mask and not called.is_lost():
                return called
        return None

    def _find_lost(self):
        # A call may need a new board, so that it waits until as much as can be is known of what lies behind it:
        # the newest boards come first, and on a board the last points.
        while (self._waiting or self._waiting_calls) and not self.main.is_lost():
            if self._waiting:
                board, number = self._waiting.pop()
            else:
                newest, point, number = heappop(self._waiting_calls)
                board = self._boards[-newest]
            self._check(board, number)

    def _begun(self, first, forbidden):
        board = Board(len(self._boards), self._arenas.at(first), forbidden)
        self._boards.append(board)
        self._by_first.setdefault(first, []).append(board)
        for number in board.arena.before:
            self._wait(board, number)
        return board

    def _wait(self, board, number):
        if self.free.machine.row_at(number)[0] == "call":
            heappush(self._waiting_calls, (-board.number, -self.free.machine.nodes[number][1], number))
        else:
            self._waiting.append((board, number))

    def _check(self, board, number):
        if number in board.lost:
            return
        reasons = []
        for values in self.free.choices(number):
            step = self.free.step(number, values)
            reason = self.reason(board, number, step)
            if reason is None:
                if step.kind == "call":
                    self._watch(board, number, step.callee)
                return
            reasons.append(reason)
        self._lose(board, number, tuple(reasons))

    def _watch(self, board, number, callee):
        called = self.board_behind(board, number, callee)
        if called is None:
            called = self._begun(callee, self._mask_of(self._lost_behind(board, number, callee)))
        called.watchers[(board.number, number)] = True

    def _lose(self, board, number, reasons):
        board.lost[number] = len(self.rows)
        self.rows.append((board, number, reasons))
        for other in board.arena.before[number]:
            self._wait(board, other)
        if number == board.arena.first:
            for watcher, caller in board.watchers:
                self._wait(self._boards[watcher], caller)

    def _call_reason(self, board, number, callee):
        lost = self._lost_behind(board, number, callee)
        mask = self._mask_of(lost)
        for called in self._by_first.get(callee, ()):
            if called.forbidden & mask == called.forbidden and called.is_lost():
                rows = [lost[outcome] for outcome in self.outcomes_in(called.arena, called.forbidden)]
                return ("call", called.lost[callee], tuple(rows))
        return None

    def _end_reason(self, board, number):
        machine = self.free.machine
        if machine.is_main(number):
            return None if machine.may_finish(number) else ("finish",)
        return ("outcome",) if self._bit(self.free.outcome_at(number)) & board.forbidden else None

    def _lost_behind(self, board, number, callee):
        """The outcomes of a call behind which the mender loses, with the numbers of the rows of the nodes there."""
        found = {}
        for outcome in self._arenas.at(callee).outcomes:
            behind = self.free.machine.behind_call(number, outcome)
            if behind in board.lost:
                found[outcome] = board.lost[behind]
        return found

    def _mask_of(self, outcomes):
        mask = 0
        for outcome in outcomes:
            mask = mask | self._bit(outcome)
        return mask

    def _bit(self, outcome):
        return self._bits.setdefault(outcome, 1 << len(self._bits))
