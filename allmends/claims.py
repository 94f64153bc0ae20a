"""Claims that a set of places is enough, or is not, and their texts (points 72 to 75)."""

from allmends.changes import Change
from allmends.errors import InvalidLine
from allmends.forms import frozen
from allmends.lines import entry_line, head_line, paper_lines, read_line, tree_line
from allmends.papers import holds
from allmends.refusals import refuse_mismatch, refuse_weight
from allmends.trees import has_keeps_row, tree_holds


class Claim:
    """What a claim says, and what it shows."""

    def __init__(self, enough, places, change, paper, tree):
        self.enough = enough
        self.places = tuple(sorted(places))
        self.change = change
        self.paper = frozen(paper)
        self.tree = frozen(tree)


def claim_holds(program, contract, claim):
    """True if a claim (or an answer) shows what it says."""
    refuse_mismatch(program, contract)
    refuse_weight(program, contract)
    if claim.enough:
        return mend_holds(program, contract, claim)
    if not all([0 <= place < len(program.places) for place in claim.places]):
        return False
    if len(set(claim.places)) < len(claim.places) or has_keeps_row(claim.tree):
        return False
    return tree_holds(program, contract, claim.places, claim.tree)


def mend_holds(program, contract, claim):
    """True if the change and the paper of a claim show that its places are enough."""
    change = claim.change
    if change is None or change.places != claim.places or not change.fits(program):
        return False
    if not all([row_exists(program, contract, row) for row in claim.paper]):
        return False
    return holds(program, contract, change, claim.paper)


def row_exists(program, contract, row):
    """True if the program and the contract have all that a row of a paper names."""
    (procedure, sight, state, over), endings, rank = row
    if not 0 <= procedure < len(program.procedures) or sight not in program.sights(procedure):
        return False
    if not 0 <= state < len(contract.states):
        return False
    return all([ending_exists(program, contract, ending) for ending in endings])


def ending_exists(program, contract, ending):
    """True if the globals of an ending have such values, and the contract has its state."""
    values, state, over, quiet = ending
    sizes = [size for name, size in program.variables]
    if len(values) != len(sizes) or not 0 <= state < len(contract.states):
        return False
    return all([0 <= value < size for value, size in zip(values, sizes)])


def claim_text(claim):
    """The text of a claim (or of an answer)."""
    if not claim.enough:
        return "".join([head_line(claim)] + [tree_line(row) for row in claim.tree])
    lines = [head_line(claim)] + [entry_line(triple) for triple in claim.change.entries]
    for row in claim.paper:
        lines.extend(paper_lines(row))
    return "".join(lines)


def parse_claim(text):
    """The claim that a text writes."""
    # What stands behind the last newline is a line of its own only if it is not empty.
    *lines, last = text.split("\n")
    draft = ClaimDraft()
    for number, line in enumerate(lines):
        if not draft.takes(read_line(line)):
            raise InvalidLine(number)
    if last or not lines:
        raise InvalidLine(len(lines))
    return draft.claim()


class ClaimDraft:
    """A claim on its way, line by line."""

    def __init__(self):
        self._word = None
        self._places = ()
        self._entries = []
        self._calls = []
        self._tree = []

    def takes(self, read):
        """True if what was read fits behind the lines before; then it belongs to the claim."""
        if read is None:
            return False
        word, value = read
        if self._word is None:
            return self._takes_first(word, value)
        if word == "entry":
            return self._takes_entry(value)
        if word == "call":
            return self._takes_call(value)
        if word == "ending":
            return self._takes_ending(value)
        return self._takes_row(word, value)

    def claim(self):
        """The whole claim."""
        if self._word == "refuted":
            return Claim(False, self._places, None, (), self._tree)
        paper = [(opening, endings, rank) for opening, rank, endings in self._calls]
        return Claim(True, self._places, Change(self._places, self._entries), paper, ())

    def _takes_first(self, word, value):
        if word not in ("enough", "refuted") or value != tuple(sorted(set(value))):
            return False
        self._word = word
        self._places = value
        return True

    def _takes_entry(self, triple):
        if self._word != "enough" or self._calls or triple[0] not in self._places:
            return False
        if self._entries and triple[:2] <= self._entries[-1][:2]:
            return False
        self._entries.append(triple)
        return True

    def _takes_call(self, value):
        if self._word != "enough":
            return False
        opening, rank = value
        self._calls.append((opening, rank, []))
        return True

    def _takes_ending(self, ending):
        if not self._calls:
            return False
        self._calls[-1][2].append(ending)
        return True

    def _takes_row(self, word, row):
        if self._word != "refuted" or word not in ("ask", "breaks"):
            return False
        self._tree.append(row)
        return True
