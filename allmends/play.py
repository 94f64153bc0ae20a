"""Whether some places are enough in free play (points 64 and 68)."""

from allmends.freesteps import FreeSteps
from allmends.games import Game
from allmends.refusals import refuse_play


class Play:
    """Whether some places are enough in free play, with a plan or a spoiling."""

    def __init__(self, places, plan, spoiling):
        self.enough = not spoiling
        self.places = places
        self.plan = plan
        self.spoiling = spoiling


def free_play(program, contract, places):
    """Whether the mender can choose values at the places so that no stream loses."""
    refuse_play(program, contract, places)
    game = Game(FreeSteps(program, contract, places))
    ordered = tuple(sorted(places))
    if game.main.is_lost():
        return Play(ordered, (), spoiling_of(game))
    return Play(ordered, plan_of(game), ())


def plan_of(game):
    """The plan of a mender who wins."""
    rows = []
    met = {game.main.number: True}
    waiting = [game.main]
    while waiting:
        board = waiting.pop()
        moves, called = moves_on(game, board)
        rows.append((game.free.machine.opening_at(board.arena.first), game.allowed_on(board), moves))
        for other in called:
            if other.number not in met:
                met[other.number] = True
                waiting.append(other)
    return tuple(rows)


def moves_on(game, board):
    """The moves at all nodes that the mender comes to on a board, and the boards of the calls."""
    machine = game.free.machine
    moves = []
    called = []
    met = {board.arena.first: True}
    waiting = [board.arena.first]
    while waiting:
        number = waiting.pop()
        values, step = winning_step(game, board, number)
        outcomes = ()
        targets = [target for event, letters, target in step.ways]
        if step.kind == "call":
            other = game.board_behind(board, number, step.callee)
            called.append(other)
            outcomes = game.allowed_on(other)
            targets = [machine.behind_call(number, outcome) for outcome in outcomes]
        moves.append((machine.nodes[number], values, outcomes))
        for target in targets:
            if target not in met:
                met[target] = True
                waiting.append(target)
    return tuple(moves), called


def winning_step(game, board, number):
    """The first choice of values by which the mender does not lose, and its step."""
    for values in game.free.choices(number):
        step = game.free.step(number, values)
        if game.reason(board, number, step) is None:
            return values, step
    return None


def spoiling_of(game):
    """The spoiling that leads up to the first node of the main call."""
    last = game.main.lost[game.main.arena.first]
    needed = {last: True}
    waiting = [last]
    while waiting:
        reasons = game.rows[waiting.pop()][2]
        for row in rows_named(reasons):
            if row not in needed:
                needed[row] = True
                waiting.append(row)
    numbers = {row: number for number, row in enumerate(sorted(needed))}
    return tuple([spoiling_row(game, game.rows[row], numbers) for row in numbers])


def rows_named(reasons):
    """The numbers of the rows that some reasons name."""
    found = []
    for reason in reasons:
        if reason[0] == "go":
            found.append(reason[2])
        if reason[0] == "call":
            found.extend([reason[1], *reason[2]])
    return found


def spoiling_row(game, row, numbers):
    """A row of a game as one of a spoiling, where rows have other numbers."""
    board, number, reasons = row
    machine = game.free.machine
    opening = machine.opening_at(board.arena.first)
    forbidden = game.outcomes_in(board.arena, board.forbidden)
    return (opening, forbidden, machine.nodes[number], tuple([renumbered(reason, numbers) for reason in reasons]))


def renumbered(reason, numbers):
    """A reason that names rows by other numbers."""
    if reason[0] == "go":
        return ("go", reason[1], numbers[reason[2]])
    if reason[0] == "call":
        return ("call", numbers[reason[1]], tuple([numbers[row] for row in reason[2]]))
    return reason
