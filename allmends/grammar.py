"""Reads programs and expressions in the form of point 13, with the faults of point 14."""

from allmends.errors import InvalidText

MOST_OPERATORS = 40
MOST_OPEN_PARENTHESES = 10
MOST_OPEN_STATEMENTS = 10


class ExpressionReader:
    """Reads one expression, and counts its operators and its open parentheses."""

    def __init__(self, reader):
        self._reader = reader
        self._operators = 0
        self._parentheses = 0

    def either(self):
        """Read the form `either`; each method below reads the form of its name."""
        found = self.each()
        while self.operator(("or",)):
            found = ("or", found, self.each())
        return found

    def each(self):
        found = self.plain()
        while self.operator(("and",)):
            found = ("and", found, self.plain())
        return found

    def plain(self):
        if self.operator(("not",)):
            return ("not", self.compared())
        return self.compared()

    def compared(self):
        found = self.added()
        sign = self.operator(("==", "<"))
        if sign:
            return (sign, found, self.added())
        return found

    def added(self):
        found = self.multiplied()
        while sign := self.operator(("+", "-")):
            found = (sign, found, self.multiplied())
        return found

    def multiplied(self):
        found = self.atom()
        while self.operator(("*",)):
            found = ("*", found, self.atom())
        return found

    def atom(self):
        reader = self._reader
        if reader.sees("("):
            return self.enclosed()
        if reader.sees_number():
            return ("number", reader.need_number())
        return ("name", reader.need_name())

    def enclosed(self):
        """Read an expression in parentheses."""
        if self._parentheses == MOST_OPEN_PARENTHESES:
            raise InvalidText(self._reader.here())
        self._reader.need("(")
        self._parentheses += 1
        found = self.either()
        self._reader.need(")")
        self._parentheses -= 1
        return found

    def operator(self, signs):
        """Take one of the operators if it comes next, and return it, otherwise the empty string."""
        for sign in signs:
            if self._reader.sees(sign):
                if self._operators == MOST_OPERATORS:
                    raise InvalidText(self._reader.here())
                self._operators += 1
                self._reader.need(sign)
                return sign
        return ""


def read_expression(reader):
    """Read an expression."""
    return ExpressionReader(reader).either()


def read_list(reader, read_item):
    """Read items in parentheses, separated by commas, perhaps none."""
    items = []
    reader.need("(")
    if not reader.sees(")"):
        items.append(read_item(reader))
        while reader.take(","):
            items.append(read_item(reader))
    reader.need(")")
    return tuple(items)


def read_variable(reader):
    """Read a name and a number."""
    name = reader.need_name()
    return (name, reader.need_number())


def read_variables(reader, word):
    """Read variables as long as this word comes before them."""
    found = []
    while reader.take(word):
        found.append(read_variable(reader))
    return tuple(found)


def read_program(reader):
    """Read a whole program, and return the arguments of `Program`."""
    letters, answers = reader.need_head()
    variables = read_variables(reader, "global")
    procedures = []
    while reader.take("proc"):
        procedures.append(read_procedure(reader))
    reader.need_end()
    return letters, answers, variables, tuple(procedures)


def read_procedure(reader):
    """Read what follows the word `proc`."""
    name = reader.need_name()
    parameters = read_list(reader, read_variable)
    inner = read_variables(reader, "local")
    body = read_body(reader, 0)
    reader.need("end")
    return (name, parameters, inner, body)


def read_body(reader, nested):
    """Read statements up to the word `end` or `else`, inside so many open if and while statements."""
    body = []
    while not reader.sees("end") and not reader.sees("else"):
        body.append(read_statement(reader, nested))
    return tuple(body)


def read_statement(reader, nested):
    """Read one statement."""
    if reader.sees("if") or reader.sees("while"):
        if nested == MOST_OPEN_STATEMENTS:
            raise InvalidText(reader.here())
        return read_test(reader, nested + 1)
    if reader.take("read"):
        return ("read", reader.need_name())
    if reader.take("write"):
        return ("write", read_expression(reader))
    if reader.take("call"):
        name = reader.need_name()
        return ("call", name, read_list(reader, read_expression))
    if reader.take("skip"):
        return ("skip",)
    name = reader.need_name()
    reader.need("=")
    return ("set", name, read_expression(reader))


def read_test(reader, nested):
    """Read an if or a while statement; `nested` counts it too."""
    if reader.take("while"):
        test = read_expression(reader)
        reader.need("do")
        body = read_body(reader, nested)
        reader.need("end")
        return ("while", test, body)
    reader.need("if")
    test = read_expression(reader)
    reader.need("then")
    body = read_body(reader, nested)
    other = read_body(reader, nested) if reader.take("else") else ()
    reader.need("end")
    return ("if", test, body, other)
