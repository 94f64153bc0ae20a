"""Results that a desk keeps as long as nothing that they used is changed (points 80 and 81)."""

from allmends.amendments import untouched


class Kept:
    """Results by their questions: the names of a program and a contract, the places and the limit."""

    def __init__(self):
        self._results = {}

    def found(self, question):
        """The result that is kept for a question, or None."""
        return self._results.get(question)

    def keep(self, question, result):
        """Keeps the result of a question."""
        self._results[question] = result

    def in_turn(self):
        """Pairs of each question and its result, in ascending order of the questions."""
        return [(question, self._results[question]) for question in sorted(self._results)]

    def drop_program(self, name, old, new, contracts):
        """Drops what used something that differs between the old and the new program; None for none."""
        asked = [key for key in self._results if key[0] == name]
        for question in asked:
            uses = self._results[question].uses
            contract = contracts[question[1]]
            if new is None or not untouched(uses, old, new, contract, contract):
                del self._results[question]

    def drop_contract(self, name, old, new, programs):
        """Drops what used something that differs between the old and the new contract; None for none."""
        asked = [key for key in self._results if key[1] == name]
        for question in asked:
            uses = self._results[question].uses
            program = programs[question[0]]
            if new is None or not untouched(uses, program, program, old, new):
                del self._results[question]
