"""The places of a program and the points of its procedures (points 9 and 10)."""

from allmends.forms import bodies_of, expressions_of, in_sight, statements_of


def lay_out(answers, variables, procedures):
    """The rows of all places, and for each procedure the tuple of the rows of its points."""
    names = [procedure[0] for procedure in procedures]
    places = []
    points = []
    for number, procedure in enumerate(procedures):
        sight = in_sight(variables, procedure)
        rows = []
        for statement, ways in body_ways(procedure[3], 0, body_length(procedure[3])):
            first = len(places)
            aims = aims_of(statement, sight, answers, procedures)
            places.extend([
                (number, role, size, expression)
                for (role, size), expression in zip(aims, expressions_of(statement))
            ])
            rows.append(point_row(statement, sight, names, tuple(range(first, len(places))), ways))
        points.append(tuple(rows + [("end",)]))
    return tuple(places), tuple(points)


def body_length(body):
    """The number of the statements of a body, those in inner bodies included."""
    return len(statements_of(body))


def body_ways(body, first, behind):
    """Pairs (statement, ways) for all statements of a body, in the order of their points.

    `first` is the point of the first statement, `behind` is where the last one leads.
    The ways of a statement are the points that can follow it: for a test those of a
    true and of a false one, for any other statement one point.
    """
    found = []
    for index, statement in enumerate(body):
        point = first + len(found)
        is_last = index + 1 == len(body)
        follows = behind if is_last else point + body_length((statement,))
        found.extend(statement_ways(statement, point, follows))
    return found


def statement_ways(statement, point, follows):
    """The pairs of `body_ways` for one statement and those in its bodies."""
    word = statement[0]
    if word not in ("if", "while"):
        return [(statement, (follows,))]
    # A while body leads back to the test, the bodies of an if statement lead on.
    behind = point if word == "while" else follows
    inner = []
    starts = []
    for body in bodies_of(statement):
        start = point + 1 + len(inner)
        starts.append(start if body else behind)
        inner.extend(body_ways(body, start, behind))
    ways = (starts[0], follows) if word == "while" else (starts[0], starts[1])
    return [(statement, ways)] + inner


def aims_of(statement, sight, answers, procedures):
    """The pair (role, size) of each place of a statement."""
    word = statement[0]
    if word == "set":
        return [("set", size) for name, size in sight if name == statement[1]]
    if word == "write":
        return [("write", answers)]
    if word in ("if", "while"):
        return [("test", 2)]
    if word == "call":
        return [
            ("pass", size)
            for procedure in procedures if procedure[0] == statement[1]
            for name, size in procedure[1]
        ]
    return []


def point_row(statement, sight, names, places, ways):
    """The row of the point of a statement that has these places and ways."""
    word = statement[0]
    if word == "set":
        return ("set", slot_of(sight, statement[1]), places[0], ways[0])
    if word == "read":
        return ("read", slot_of(sight, statement[1]), ways[0])
    if word == "write":
        return ("write", places[0], ways[0])
    if word == "call":
        return ("call", names.index(statement[1]), places, ways[0])
    if word == "skip":
        return ("skip", ways[0])
    return ("test", places[0], ways[0], ways[1])


def slot_of(sight, name):
    """The index of a variable in the sight."""
    return [pair[0] for pair in sight].index(name)
