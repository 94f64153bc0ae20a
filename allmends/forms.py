"""The parts of procedures, statements and expressions, as callers pass them."""

LEAVES = ("number", "name")


def frozen(value):
    """A copy that has a tuple for each list and tuple, at every depth."""
    if isinstance(value, (list, tuple)):
        return tuple([frozen(part) for part in value])
    return value


def product_of(sizes):
    """The product of some numbers, 1 if there are none."""
    result = 1
    for size in sizes:
        result = result * size
    return result


def in_sight(variables, procedure):
    """The pairs (name, size) of the variables in sight of a procedure, in the order of point 8."""
    return list(variables) + list(procedure[1]) + list(procedure[2])


def bodies_of(statement):
    """The bodies that stand in a statement."""
    if statement[0] == "if":
        return (statement[2], statement[3])
    if statement[0] == "while":
        return (statement[2],)
    return ()


def expressions_of(statement):
    """The expressions that stand in a statement itself, one for each of its places."""
    word = statement[0]
    if word == "set":
        return (statement[2],)
    if word == "call":
        return tuple(statement[2])
    if word in ("write", "if", "while"):
        return (statement[1],)
    return ()


def statements_of(body):
    """Pairs (statement, depth) for all statements of a body, in no special order."""
    found = []
    # A list of what waits instead of recursion: bodies may be nested far deeper than a program allows.
    waiting = [(statement, 1) for statement in body]
    while waiting:
        statement, depth = waiting.pop()
        found.append((statement, depth))
        for inner in bodies_of(statement):
            waiting.extend([(below, depth + 1) for below in inner])
    return found


def is_deeper(expression, limit):
    """True if the depth of the expression is more than the limit."""
    if limit == 0:
        return True
    if expression[0] in LEAVES:
        return False
    return any([is_deeper(part, limit - 1) for part in expression[1:]])


def leaves_of(expression):
    """The numbers and names of an expression, from left to right."""
    if expression[0] in LEAVES:
        return [expression]
    return [leaf for part in expression[1:] for leaf in leaves_of(part)]
