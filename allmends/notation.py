"""The texts of programs and expressions (points 12 to 16)."""

from allmends.grammar import read_expression, read_program
from allmends.programs import Program
from allmends.tokens import Reader

LEVELS = {
    "or": 1, "and": 2, "not": 3, "==": 4, "<": 4, "+": 5, "-": 5, "*": 6, "number": 7, "name": 7,
}


def parse_program(text):
    """The program that a text writes."""
    letters, answers, variables, procedures = read_program(Reader(text))
    return Program(letters, answers, variables, procedures)


def parse_expression(text):
    """The expression that a text writes."""
    reader = Reader(text)
    expression = read_expression(reader)
    reader.need_end()
    return expression


def print_program(program):
    """The text of a program."""
    lines = [f"letters {program.letters}", f"answers {program.answers}"]
    lines.extend([f"global {name} {size}" for name, size in program.variables])
    for procedure in program.procedures:
        lines.extend(procedure_lines(procedure))
    return "".join([f"{line}\n" for line in lines])


def procedure_lines(procedure):
    """The lines of a procedure."""
    name, parameters, inner, body = procedure
    words = ", ".join([f"{variable} {size}" for variable, size in parameters])
    lines = [f"proc {name}({words})"]
    lines.extend(indented([f"local {variable} {size}" for variable, size in inner]))
    return lines + indented(body_lines(body)) + ["end"]


def indented(lines):
    """The lines, two spaces further in."""
    return [f"  {line}" for line in lines]


def body_lines(body):
    """The lines of the statements of a body."""
    return [line for statement in body for line in statement_lines(statement)]


def statement_lines(statement):
    """The lines of a statement."""
    word = statement[0]
    if word == "if":
        body = indented(body_lines(statement[2]))
        other = ["else"] + indented(body_lines(statement[3])) if statement[3] else []
        return [f"if {print_expression(statement[1])} then"] + body + other + ["end"]
    if word == "while":
        body = indented(body_lines(statement[2]))
        return [f"while {print_expression(statement[1])} do"] + body + ["end"]
    return [line_of(statement)]


def line_of(statement):
    """The line of a statement without bodies."""
    word = statement[0]
    if word == "set":
        return f"{statement[1]} = {print_expression(statement[2])}"
    if word == "read":
        return f"read {statement[1]}"
    if word == "write":
        return f"write {print_expression(statement[1])}"
    if word == "call":
        arguments = ", ".join([print_expression(argument) for argument in statement[2]])
        return f"call {statement[1]}({arguments})"
    return "skip"


def print_expression(expression):
    """The text of an expression, with parentheses only where point 16 asks for them."""
    word = expression[0]
    if word in ("number", "name"):
        return str(expression[1])
    level = LEVELS[word]
    if word == "not":
        return f"not {part_text(expression[1], level + 1)}"
    left_level = level + 1 if word in ("==", "<") else level
    left = part_text(expression[1], left_level)
    right = part_text(expression[2], level + 1)
    return f"{left} {word} {right}"


def part_text(part, least):
    """The text of a part of an expression, in parentheses if its level is below the least one."""
    text = print_expression(part)
    return text if LEVELS[part[0]] >= least else f"({text})"
