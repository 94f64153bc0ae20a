"""What a step does at a node (points 28, 29 and 59)."""

from allmends.values import Values


class Step:
    """What can happen at a node.

    `kind` is "quiet", "event", "call", "end" or "asks". `used` has the entries whose values are used.
    `ways` has a triple (event, letters, target) for each thing that can happen: the event or None, the
    letters that it takes as a string, and the number of the next node, or None if the event is wrong.
    `asked` is the unset entry, `callee` the number of the first node of the call that begins, and
    `behind` the numbers of the nodes behind that call by its endings, as far as they were looked for.
    """

    def __init__(self, kind, used, ways=(), asked=None, callee=None):
        self.kind = kind
        self.used = used
        self.ways = ways
        self.asked = asked
        self.callee = callee
        self.behind = {}


class Machine:
    """The nodes of a program under a contract, numbered as they are met, and the steps at them."""

    def __init__(self, program, contract, change):
        self.program = program
        self.contract = contract
        self.nodes = []
        self._numbers = {}
        self._steps = []
        self._touched = []
        self.turn_to(change)

    def turn_to(self, change):
        """Goes on with another change of the same places, or another draft of the same field."""
        self.choice = Values(self.program, change)
        # All other steps stay as they are, because no value of theirs can have changed.
        for number in self._touched:
            self._steps[number] = None
        self._touched = []

    def number_of(self, node):
        """The number of a node."""
        number = self._numbers.get(node)
        if number is None:
            number = len(self.nodes)
            self._numbers[node] = number
            self.nodes.append(node)
            self._steps.append(None)
        return number

    def first_node(self, opening):
        """The number of the first node of a call with this opening."""
        procedure, sight, state, over = opening
        return self.number_of((procedure, 0, sight, state, over))

    def opening_at(self, number):
        """The opening of a call that has its first node here."""
        procedure, point, sight, state, over = self.nodes[number]
        return (procedure, sight, state, over)

    def main_opening(self):
        """The opening of the main call."""
        return (0, (0,) * len(self.program.sizes(0)), 0, False)

    def step(self, number):
        """The step at the node with this number."""
        found = self._steps[number]
        if found is None:
            found = self._made(number, self.choice)
            self._steps[number] = found
            if any([self.choice.owns(place) for place in self.places_at(number)]):
                self._touched.append(number)
        return found

    def step_with(self, number, change):
        """The step that another change makes at the node with this number."""
        return self._made(number, Values(self.program, change))

    def row_at(self, number):
        """The row of the point of a node."""
        procedure, point, sight, state, over = self.nodes[number]
        return self.program.points(procedure)[point]

    def places_at(self, number):
        """The places that the statement of a node has."""
        return places_of(self.row_at(number))

    def behind_call(self, number, ending):
        """The number of the node behind the call at a node, where the call has this ending, or this outcome."""
        behind = self.step(number).behind
        if ending not in behind:
            procedure, point, sight, state, over = self.nodes[number]
            after = ending[0] + sight[len(ending[0]):]
            behind[ending] = self.number_of((procedure, self.row_at(number)[3], after, ending[1], ending[2]))
        return behind[ending]

    def ending_at(self, number, quiet):
        """The ending of a call that ends at a node."""
        procedure, point, sight, state, over = self.nodes[number]
        return (sight[:len(self.program.variables)], state, over, quiet)

    def is_main(self, number):
        """True if a node is one of the main procedure."""
        return self.nodes[number][0] == 0

    def may_finish(self, number):
        """True if the main procedure may end in the state of a node."""
        return self.contract.states[self.nodes[number][3]][3]

    def may_be_silent(self, number):
        """True if the program may be silent for ever in the state of a node."""
        return self.contract.states[self.nodes[number][3]][4]

    def _made(self, number, choice):
        node = self.nodes[number]
        row = self.row_at(number)
        if row[0] == "read":
            return self._read(node, row)
        if row[0] == "call":
            return self._call(node, row, choice)
        if row[0] == "end":
            return Step("end", ())
        if row[0] == "skip":
            return self._quiet(node, row[1], node[2], ())
        return self._valued(node, row, choice)

    def _valued(self, node, row, choice):
        """The step of a statement that has one place."""
        sight = node[2]
        place = places_of(row)[0]
        if choice.drops(place):
            return self._quiet(node, row[2], sight, ())
        value = choice.value_in(place, sight)
        if value is None:
            return Step("asks", (), asked=choice.entry_to_ask(place, sight))
        used = ((place, sight),)
        if row[0] == "write":
            return Step("event", used, (self._way(node, ("write", value), row[2], sight, node[4]),))
        if row[0] == "set":
            return self._quiet(node, row[3], with_value(sight, row[1], value), used)
        return self._quiet(node, row[2] if value == 1 else row[3], sight, used)

    def _quiet(self, node, point, sight, used):
        procedure, here, before, state, over = node
        return Step("quiet", used, ((None, "", self.number_of((procedure, point, sight, state, over))),))

    def _way(self, node, event, point, sight, over):
        procedure, here, before, state, was_over = node
        target = self.contract.follow(state, event)
        letters = str(event[1]) if event[0] == "read" else ""
        if target is None:
            return (event, letters, None)
        return (event, letters, self.number_of((procedure, point, sight, target, over)))

    def _read(self, node, row):
        word, slot, point = row
        behind = with_value(node[2], slot, self.program.letters)
        if node[4]:
            return self._quiet(node, point, behind, ())
        ways = [
            self._way(node, ("read", letter), point, with_value(node[2], slot, letter), False)
            for letter in range(self.program.letters)
        ]
        return Step("event", (), tuple(ways + [self._way(node, ("over",), point, behind, True)]))

    def _call(self, node, row, choice):
        procedure, point, sight, state, over = node
        used = []
        passed = ()
        for place in row[2]:
            value = choice.value_in(place, sight)
            if value is None:
                return Step("asks", tuple(used), asked=choice.entry_to_ask(place, sight))
            used.append((place, sight))
            passed = passed + (value,)
        begin = sight[:len(self.program.variables)] + passed
        rest = len(self.program.sizes(row[1])) - len(begin)
        opening = (row[1], begin + (0,) * rest, state, over)
        return Step("call", tuple(used), callee=self.first_node(opening))


def with_value(sight, slot, value):
    """The sight with another value in a slot."""
    return sight[:slot] + (value,) + sight[slot + 1:]


def places_of(row):
    """The places that the row of a point has."""
    if row[0] == "set":
        return (row[2],)
    if row[0] in ("write", "test"):
        return (row[1],)
    return row[2] if row[0] == "call" else ()
