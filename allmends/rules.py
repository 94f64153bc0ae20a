"""The rules that a program keeps (point 7)."""

from allmends.forms import expressions_of, in_sight, is_deeper, leaves_of, product_of, statements_of
from allmends.letters import letters_reason
from allmends.names import is_name

MOST_PROCEDURES = 5
MOST_GLOBALS = 4
MOST_PARAMETERS = 3
MOST_LOCALS = 3
LEAST_SIZE = 2
MOST_SIZE = 4
MOST_SIGHTS = 64
MOST_STATEMENTS = 60
MOST_NESTING = 6
MOST_DEPTH = 5
MOST_NUMBER = 9


def first_reason(letters, answers, variables, procedures):
    """The first reason of point 7 to refuse a program, or the empty string."""
    # The order counts: what a later rule looks at was made sure by the earlier ones.
    return (
        letters_reason(letters, answers)
        or count_reason(variables, procedures)
        or declaration_reason(variables, procedures)
        or shape_reason(procedures)
        or meaning_reason(letters, variables, procedures)
    )


def count_reason(variables, procedures):
    """The first reason of 3 and 4, or the empty string."""
    if not 1 <= len(procedures) <= MOST_PROCEDURES:
        return "procedures"
    if len(variables) > MOST_GLOBALS or any([has_many_variables(procedure) for procedure in procedures]):
        return "variables"
    return ""


def has_many_variables(procedure):
    """True if a procedure has too many parameters or locals."""
    return len(procedure[1]) > MOST_PARAMETERS or len(procedure[2]) > MOST_LOCALS


def declaration_reason(variables, procedures):
    """The first reason of 5 to 9, or the empty string."""
    procedure_names = [procedure[0] for procedure in procedures]
    scopes = [in_sight(variables, procedure) for procedure in procedures]
    scope_names = [[name for name, size in scope] for scope in scopes]
    scope_sizes = [[size for name, size in scope] for scope in scopes]
    if not all([is_name(name) for names in [procedure_names] + scope_names for name in names]):
        return "name"
    if any([len(set(names)) < len(names) for names in [procedure_names] + scope_names]):
        return "twice"
    if not all([LEAST_SIZE <= size <= MOST_SIZE for sizes in scope_sizes for size in sizes]):
        return "size"
    if any([product_of(sizes) > MOST_SIGHTS for sizes in scope_sizes]):
        return "sights"
    if len(procedures[0][1]) > 0:
        return "main"
    return ""


def shape_reason(procedures):
    """The first reason of 10 to 12, or the empty string."""
    found = [pair for procedure in procedures for pair in statements_of(procedure[3])]
    if len(found) > MOST_STATEMENTS:
        return "statements"
    if any([depth > MOST_NESTING for statement, depth in found]):
        return "nesting"
    expressions = [expression for statement, depth in found for expression in expressions_of(statement)]
    if any([is_deeper(expression, MOST_DEPTH) for expression in expressions]):
        return "depth"
    return ""


def meaning_reason(letters, variables, procedures):
    """The first reason of 13 to 16, or the empty string."""
    found = []
    for procedure in procedures:
        scope = {name: size for name, size in in_sight(variables, procedure)}
        found.extend([(statement, scope) for statement, depth in statements_of(procedure[3])])
    many = {procedure[0]: len(procedure[1]) for procedure in procedures}
    if any([has_wrong_number(statement) for statement, sizes in found]):
        return "number"
    if any([has_unknown(statement, sizes, many) for statement, sizes in found]):
        return "unknown"
    if any([is_wrong_call(statement, procedures[0][0], many) for statement, sizes in found]):
        return "call"
    if any([statement[0] == "read" and sizes[statement[1]] < letters + 1 for statement, sizes in found]):
        return "read"
    return ""


def has_wrong_number(statement):
    """True if an expression of the statement has a number that is too large or below 0."""
    leaves = [leaf for expression in expressions_of(statement) for leaf in leaves_of(expression)]
    return any([word == "number" and not 0 <= worth <= MOST_NUMBER for word, worth in leaves])


def has_unknown(statement, sizes, many):
    """True if the statement names a variable without a size or a procedure that `many` lacks."""
    if statement[0] == "call" and statement[1] not in many:
        return True
    if statement[0] in ("set", "read") and statement[1] not in sizes:
        return True
    leaves = [leaf for expression in expressions_of(statement) for leaf in leaves_of(expression)]
    return any([word == "name" and worth not in sizes for word, worth in leaves])


def is_wrong_call(statement, main, many):
    """True if the statement calls the main procedure or passes a wrong number of arguments."""
    if statement[0] != "call":
        return False
    return statement[1] == main or len(statement[2]) != many[statement[1]]
