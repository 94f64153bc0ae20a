"""Small programs and contracts made by chance, always the same ones for the same number."""

import random

from allmends.contracts import Contract
from allmends.errors import InvalidProgram
from allmends.programs import Program

OPERATORS = ("+", "-", "*", "==", "<", "and", "or")


class Maker:
    """Makes programs, contracts and amendments from a number."""

    def __init__(self, seed):
        self.rng = random.Random(seed)

    def expression(self, names, depth=2):
        if depth == 0 or self.rng.random() < 0.45:
            if names and self.rng.random() < 0.6:
                return ("name", self.rng.choice(names))
            return ("number", self.rng.randint(0, 3))
        if self.rng.random() < 0.15:
            return ("not", self.expression(names, depth - 1))
        parts = (self.expression(names, depth - 1), self.expression(names, depth - 1))
        return (self.rng.choice(OPERATORS), *parts)

    def body(self, scope, letters, callees, many, nested=0):
        """A body of about so many statements."""
        names = [name for name, size in scope]
        wide = [name for name, size in scope if size > letters]
        statements = []
        while many > 0:
            kind = self.rng.choice(("set", "set", "read", "write", "write", "call", "call", "if", "if", "while", "skip"))
            many -= 1
            if kind == "set" and names:
                statements.append(("set", self.rng.choice(names), self.expression(names)))
            elif kind == "read" and wide:
                statements.append(("read", self.rng.choice(wide)))
            elif kind == "call" and callees:
                name, parameters = self.rng.choice(callees)
                statements.append(("call", name, [self.expression(names) for _ in range(parameters)]))
            elif kind in ("if", "while") and nested < 4:
                inner = self.rng.randint(0, many)
                many -= inner
                bodies = [self.body(scope, letters, callees, inner, nested + 1)]
                if kind == "if":
                    other = self.rng.randint(0, inner)
                    bodies = [self.body(scope, letters, callees, part, nested + 1) for part in (other, inner - other)]
                statements.append((kind, self.expression(names), *bodies))
            elif kind == "write":
                statements.append(("write", self.expression(names)))
            else:
                statements.append(("skip",))
        return statements

    def variables(self, names, most):
        return [(name, self.rng.choice((2, 3))) for name in names[:self.rng.randint(0, most)]]

    def program(self, procedures=3, recursive=True, many=7):
        """A program with at most so many procedures and about so many statements in each."""
        while True:
            letters, answers = self.rng.randint(1, 2), self.rng.randint(2, 3)
            outer = self.variables("gh", 2)
            count = self.rng.randint(1, procedures)
            heads = [
                ("mpqrs"[number], self.variables("ab", 1) if number else [], self.variables("xy", 1))
                for number in range(count)
            ]
            rows = []
            for number, (name, parameters, inner) in enumerate(heads):
                first = 1 if recursive else number + 1
                callees = [(head[0], len(head[1])) for head in heads[first:]]
                scope = outer + parameters + inner
                body = self.body(scope, letters, callees, self.rng.randint(1, many))
                rows.append((name, parameters, inner, body))
            try:
                return Program(letters, answers, outer, rows)
            except InvalidProgram:
                continue

    def contract(self, program, states=3):
        """A contract for a program, with at most so many states, in which most events are right."""
        many = self.rng.randint(1, states)

        def target(wrong):
            return None if self.rng.random() < wrong else self.rng.randrange(many)

        return Contract(program.letters, program.answers, [
            ([target(0.08) for _ in range(program.letters)], target(0.1), [target(0.25) for _ in range(program.answers)],
             self.rng.random() < 0.7, self.rng.random() < 0.6)
            for _ in range(many)
        ])

    def places(self, program, part=0.4):
        return [place for place in range(len(program.places)) if self.rng.random() < part]

    def other_contract(self, contract):
        """The contract with another row or other flags."""
        state = self.rng.randrange(len(contract.states))
        if self.rng.random() < 0.4:
            return contract.with_flags(state, finish=self.rng.random() < 0.5, silence=self.rng.random() < 0.5)
        reads = [("read", letter) for letter in range(contract.letters)]
        writes = [("write", letter) for letter in range(contract.answers)]
        target = self.rng.choice([None, *range(len(contract.states))])
        return contract.with_row(state, self.rng.choice([("over",), *reads, *writes]), target)
