"""The desk: programs and contracts by name, what was done to them, and answers about them (points 76 to 81)."""

from allmends.amendments import amended
from allmends.cases import enough
from allmends.errors import InvalidName, NameTaken, NothingToRedo, NothingToUndo, UnknownName
from allmends.forms import frozen
from allmends.kept import Kept
from allmends.names import is_name
from allmends.notation import parse_program
from allmends.refusals import refuse_mismatch, refuse_places
from allmends.sets import least_sets
from allmends.tables import parse_contract


class Deed:
    """A deed, and what it put in the place of what; None is for nothing."""

    def __init__(self, row, old, new):
        self.row = row
        self.old = old
        self.new = new


class Desk:
    """Programs and contracts by name, and the answers to questions about them."""

    def __init__(self):
        self.history = ()
        self.searches = 0
        self._programs = {}
        self._contracts = {}
        self._done = []
        self._undone = []
        self._answers = Kept()
        self._lists = Kept()

    def add_program(self, name, text):
        """Keeps the program that a text writes."""
        refuse_name(name, self._programs)
        self._do(("program", name, text), None, parse_program(text))

    def add_contract(self, name, text):
        """Keeps the contract that a text writes."""
        refuse_name(name, self._contracts)
        self._do(("contract", name, text), None, parse_contract(text))

    def amend(self, name, place, expression):
        """Puts another expression at a place of a program."""
        old = self.program(name)
        new = amended(old, place, expression)
        self._do(("amend", name, place, frozen(expression)), old, new)

    def set_row(self, name, state, event, target):
        """Puts another target for an event in a state of a contract."""
        old = self.contract(name)
        new = old.with_row(state, event, target)
        self._do(("row", name, state, frozen(event), target), old, new)

    def set_flags(self, name, state, *, finish=None, silence=None):
        """Puts other flags of a state of a contract; None leaves a flag as it is."""
        old = self.contract(name)
        new = old.with_flags(state, finish=finish, silence=silence)
        self._do(("flags", name, state, finish, silence), old, new)

    def undo(self):
        """Takes back the last deed that is in force."""
        if not self._done:
            raise NothingToUndo("no deed is in force")
        deed = self._done.pop()
        self._put(deed.row, deed.new, deed.old)
        self._undone.append(deed)
        self._tell()

    def redo(self):
        """Puts the deed in force again that was taken back last."""
        if not self._undone:
            raise NothingToRedo("no deed was taken back that could be put in force again")
        deed = self._undone.pop()
        self._put(deed.row, deed.old, deed.new)
        self._done.append(deed)
        self._tell()

    def program(self, name):
        """The program that the desk has under this name now."""
        return known(name, self._programs)

    def contract(self, name):
        """The contract that the desk has under this name now."""
        return known(name, self._contracts)

    def ask(self, program, contract, places, *, limit=64):
        """Whether these places are enough, as `enough` tells it."""
        question = self._question(program, contract, places, limit)
        found = self._answers.found(question)
        if found is None:
            found = enough(self._programs[program], self._contracts[contract], places, limit=limit)
            self._answers.keep(question, found)
            self.searches += 1
        return found

    def ask_sets(self, program, contract, field, *, limit=64):
        """The least enough and the greatest refuted sets of a field, as `least_sets` tells them."""
        question = self._question(program, contract, field, limit)
        found = self._lists.found(question)
        if found is None:
            found = least_sets(self._programs[program], self._contracts[contract], field, limit=limit)
            self._lists.keep(question, found)
            self.searches += 1
        return found

    def report(self):
        """A text with a line for each answer that the desk keeps."""
        return "".join([report_line(question, answer) for question, answer in self._answers.in_turn()])

    def _question(self, program, contract, places, limit):
        """What is asked for; raises what is refused before anything that is kept is looked up."""
        asked = self.program(program)
        refuse_mismatch(asked, self.contract(contract))
        refuse_places(asked, places)
        return (program, contract, tuple(sorted(places)), limit)

    def _do(self, row, old, new):
        self._put(row, old, new)
        self._done.append(Deed(row, old, new))
        self._undone = []
        self._tell()

    def _tell(self):
        self.history = tuple([deed.row for deed in self._done])

    def _put(self, row, old, new):
        """Puts a new program or contract, or nothing, in the place of the old one."""
        name = row[1]
        if row[0] in ("program", "amend"):
            self._answers.drop_program(name, old, new, self._contracts)
            self._lists.drop_program(name, old, new, self._contracts)
            put_item(self._programs, name, new)
        else:
            self._answers.drop_contract(name, old, new, self._programs)
            self._lists.drop_contract(name, old, new, self._programs)
            put_item(self._contracts, name, new)


def refuse_name(name, table):
    """Raises InvalidName if this is not a name, and NameTaken if the table has it."""
    if not is_name(name):
        raise InvalidName(name)
    if name in table:
        raise NameTaken(name)


def known(name, table):
    """What a table has under a name."""
    if name not in table:
        raise UnknownName(name)
    return table[name]


def put_item(table, name, item):
    """Puts an item, or nothing, under a name."""
    if item is None:
        del table[name]
    else:
        table[name] = item


def report_line(question, answer):
    """The line that tells of an answer."""
    program, contract, places, limit = question
    listed = " ".join([str(place) for place in places]) if places else "none"
    if answer.enough:
        told = f"enough, {len(answer.change.entries)} entries"
    else:
        streams = len({row[1] for row in answer.tree if row[0] == "breaks"})
        told = f"refuted by {streams} streams"
    return f"{program} under {contract}: {listed} {told}, limit {limit}\n"


def replay(deeds):
    """A new desk on which the deeds of a history were done in order."""
    desk = Desk()
    for deed in deeds:
        do_again(desk, deed)
    return desk


def do_again(desk, deed):
    """Does a deed of a history on a desk."""
    word, name = deed[:2]
    if word == "program":
        desk.add_program(name, deed[2])
    elif word == "contract":
        desk.add_contract(name, deed[2])
    elif word == "amend":
        desk.amend(name, deed[2], deed[3])
    elif word == "row":
        desk.set_row(name, deed[2], deed[3], deed[4])
    else:
        desk.set_flags(name, deed[2], finish=deed[3], silence=deed[4])
