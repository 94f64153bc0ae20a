"""Programs with other expressions at some of their places."""

from allmends.forms import bodies_of, expressions_of
from allmends.programs import Program


def rewritten(program, news):
    """The program with new expressions at some places; at a write None makes the statement a skip."""
    procedures = []
    place = 0
    for name, parameters, inner, body in program.procedures:
        statements, place = rewritten_body(body, place, news)
        procedures.append((name, parameters, inner, statements))
    return Program(program.letters, program.answers, program.variables, procedures)


def rewritten_body(body, first, news):
    """The new statements of a body whose places begin with `first`, and the first place behind it."""
    statements = []
    place = first
    for statement in body:
        expressions = [
            news.get(place + index, expression) for index, expression in enumerate(expressions_of(statement))
        ]
        place += len(expressions)
        bodies = []
        for inner in bodies_of(statement):
            changed, place = rewritten_body(inner, place, news)
            bodies.append(changed)
        statements.append(rebuilt(statement, expressions, bodies))
    return statements, place


def rebuilt(statement, expressions, bodies):
    """A statement like this one with other expressions and bodies."""
    word = statement[0]
    if word == "set":
        return ("set", statement[1], expressions[0])
    if word == "write":
        return ("skip",) if expressions[0] is None else ("write", expressions[0])
    if word in ("if", "while"):
        return (word, expressions[0], *bodies)
    if word == "call":
        return ("call", statement[1], expressions)
    return statement
