import itertools
import unittest

from allmends.contracts import Contract
from allmends.errors import InvalidContract, InvalidText
from allmends.tables import parse_contract, print_contract
from tests.samples import RULES, has_only_tuples, sample_contract

HEAD = "letters 2 answers 3 "
FULL = "state finish silent over to 1 read 0 to 0 read 1 to 1 write 0 to 0 write 1 to 1 write 2 to 0 state "


def refused(text):
    """What a text is refused with: a position, a reason, or None if it is not refused."""
    try:
        parse_contract(text)
    except InvalidText as error:
        return error.position
    except InvalidContract as error:
        return error.reason
    return None


class ParseTest(unittest.TestCase):
    def refuse(self, text):
        """The text without the mark ^ is refused where the mark stands."""
        before, behind = text.split("^")
        self.assertEqual(refused(before + behind), len(before), text)

    def test_the_example(self):
        contract = parse_contract(RULES)
        none = (None, None)
        self.assertEqual((contract.letters, contract.answers), (2, 2))
        self.assertEqual(contract.states, (
            ((1, 2), 3, none, False, False), (none, None, (4, None), False, False),
            (none, None, (None, 4), False, False), (none, None, (4, 4), False, False), (none, None, none, True, False),
        ))
        self.assertTrue(has_only_tuples(contract.states))

    def test_flags(self):
        for text, flags in (("", (False, False)), ("finish ", (True, False)), ("silent ", (False, True)),
                            ("finish silent ", (True, True))):
            for rows, over in (("", None), ("over to 0", 0)):
                contract = parse_contract(f"letters 1 answers 2 state {text}{rows}")
                self.assertEqual(contract.states, (((None,), over, (None, None), *flags),))
                self.assertEqual([type(flag) for flag in contract.states[0][3:]], [bool, bool])

    def test_rows_in_any_order(self):
        rows = ["over to 1", "read 0 to 0", "read 1 to 1", "write 0 to 0", "write 2 to 1"]
        expected = ((0, 1), 1, (0, None, 1), True, False)
        for order in itertools.permutations(rows):
            contract = parse_contract(f"{HEAD}state finish {' '.join(order)} state")
            self.assertEqual(contract.states[0], expected)
            self.assertEqual(contract.states[1], ((None, None), None, (None, None, None), False, False))

    def test_rows_of_each_state(self):
        contract = parse_contract(f"{HEAD}state over to 1 state over to 0 read 0 to 1 state over to 2 read 0 to 0")
        self.assertEqual([row[:2] for row in contract.states], [((None, None), 1), ((1, None), 0), ((0, None), 2)])

    def test_spaces_and_newlines(self):
        text = "letters 1answers 2\n\nstate finish\n  over to 0read 0 to 0\n"
        self.assertEqual(parse_contract(text).states, (((0,), 0, (None, None), True, False),))

    def test_head(self):
        self.refuse("^")
        self.refuse("^state")
        self.refuse("^answers 2 letters 1")
        self.refuse("letters^")
        self.refuse("letters ^state")
        self.refuse("letters 1 ^2")
        self.refuse("letters 1 answers ^")
        self.refuse("letters 1 answers ^to")
        self.refuse("letters 1 answers 2 ^over to 0")
        self.refuse("letters 1 answers 2 ^finish")
        self.refuse("letters 1 answers 2 ^global g 2")
        self.refuse("letters 1 answers 2 ^3")

    def test_states(self):
        self.refuse(f"{HEAD}state silent ^finish")
        self.refuse(f"{HEAD}state finish ^finish")
        self.refuse(f"{HEAD}state silent ^silent")
        self.refuse(f"{HEAD}state over to 0 ^finish")
        self.refuse(f"{HEAD}state over to 0 ^silent")
        self.refuse(f"{HEAD}state ^0")
        self.refuse(f"{HEAD}state ^end")
        self.refuse(f"{HEAD}state ^(")
        self.refuse(f"{HEAD}state ^x")

    def test_rows(self):
        for row in ("over", "read 0", "write 1"):
            self.refuse(f"{HEAD}state {row}^")
            self.refuse(f"{HEAD}state {row} ^0")
            self.refuse(f"{HEAD}state {row} ^state")
            self.refuse(f"{HEAD}state {row} ^= 0")
            self.refuse(f"{HEAD}state {row} to^")
            self.refuse(f"{HEAD}state {row} to ^to")
            self.refuse(f"{HEAD}state {row} to ^none")
            self.refuse(f"{HEAD}state {row} to ^- 1")
            self.refuse(f"{HEAD}state {row} to 0 ^1")
        for word in ("read", "write"):
            self.refuse(f"{HEAD}state {word}^")
            self.refuse(f"{HEAD}state {word} ^to 0")
            self.refuse(f"{HEAD}state {word} ^over to 0")
            self.refuse(f"{HEAD}state {word} ^(0) to 0")
        self.refuse(f"{HEAD}state over ^over to 0")

    def test_tokens(self):
        for sign in ("$", "\t", "A", ";", "[", "_", "~"):
            self.refuse(f"{HEAD}^{sign} state")
            self.refuse(f"{HEAD}state ^{sign}")
            self.refuse(f"{HEAD}state over ^{sign} to 0")
            self.refuse(f"{HEAD}state over to ^{sign} 0")
        for number in ("007", "00", "01", "10000", "99999"):
            self.refuse(f"letters ^{number} answers 2")
            self.refuse(f"letters 1 answers ^{number}")
            self.refuse(f"{HEAD}state over to ^{number}")
            self.refuse(f"{HEAD}state read ^{number} to 0")
            self.refuse(f"{HEAD}state write ^{number} to 0")

    def test_longest_text(self):
        self.assertIsNone(refused(RULES.ljust(4000)))
        self.assertIsNone(refused(RULES.rjust(4000, "\n")))
        for text in (RULES.ljust(4001), "$" * 4001, "letters 9 answers 9 " * 500):
            self.assertEqual(refused(text), 4000)
        self.assertEqual(refused("$" * 4000), 0)
        self.assertEqual(refused(f"{RULES} over".ljust(4000)), 4000)

    def test_a_second_row_for_an_event(self):
        for row in ("over to 0", "read 0 to 0", "read 1 to 1", "write 0 to 0", "write 2 to 1"):
            event = row[:-5]
            other = "write 1 to 0" if event != "write 1" else "over to 0"
            for between in ("", other):
                for behind in ("", " to 1", " to", " to 0 state", " $", " to 007", " 5"):
                    self.refuse(f"{HEAD}state {row} {between} ^{event}{behind}")
                    self.refuse(f"{HEAD}state state finish {row} {between}\n^{event}{behind}")
            self.assertIsNone(refused(f"{HEAD}state {row} state {row}"))

    def test_a_second_row_for_a_letter_that_does_not_exist(self):
        for event in ("read 2", "read 9999", "write 3", "write 9"):
            for behind in ("", " to 0", " to", " $"):
                self.refuse(f"{HEAD}state {event} to 0 ^{event}{behind}")
            self.assertEqual(refused(f"{HEAD}state {event} to 0"), "rows")
            self.assertEqual(refused(f"{HEAD}state {event} to 0 state {event} to 0"), "rows")

    def test_the_event_of_a_second_row_is_read_first(self):
        self.refuse(f"{HEAD}state read 0 to 0 read ^$")
        self.refuse(f"{HEAD}state read 0 to 0 read ^00 to 0")
        self.refuse(f"{HEAD}state read 0 to 0 read^")
        self.refuse(f"{HEAD}state read 0 to 0 read ^to 0")
        self.refuse(f"{HEAD}state read 0 to ^$ read 0 to 0")
        self.refuse(f"{HEAD}state over to 0 ^over $ over")
        self.refuse(f"{HEAD}state over to 0 ^over_")

    def test_reads_and_writes_are_different_events(self):
        self.assertIsNone(refused(f"{HEAD}state over to 0 read 0 to 0 read 1 to 0 write 0 to 0 write 1 to 0"))

    def test_reasons(self):
        for letters in (0, 4, 10, 9999):
            self.assertEqual(refused(f"letters {letters} answers 2 state"), "letters")
        for answers in (0, 1, 5, 9999):
            self.assertEqual(refused(f"letters 1 answers {answers} state"), "answers")
        self.assertEqual(refused("letters 1 answers 2"), "states")
        self.assertEqual(refused("letters 1 answers 2" + " state" * 9), "states")
        self.assertIsNone(refused("letters 1 answers 2" + " state" * 8))
        for letters, answers in itertools.product((1, 2, 3), (2, 3, 4)):
            head = f"letters {letters} answers {answers} state"
            self.assertIsNone(refused(f"{head} read {letters - 1} to 0 write {answers - 1} to 0"))
            self.assertEqual(refused(f"{head} read {letters} to 0"), "rows")
            self.assertEqual(refused(f"{head} write {answers} to 0"), "rows")
            self.assertEqual(refused(f"{head} over to 1"), "target")
            self.assertEqual(refused(f"{head} read 0 to 1"), "target")
            self.assertEqual(refused(f"{head} write 1 to 9999"), "target")
            self.assertIsNone(refused(f"{head} over to 1 state"))

    def test_the_earlier_reason_is_raised(self):
        self.assertEqual(refused("letters 4 answers 5"), "letters")
        self.assertEqual(refused("letters 4 answers 2 state read 3 to 0 read 4 to 9"), "letters")
        self.assertEqual(refused("letters 0 answers 2 state read 0 to 9"), "letters")
        self.assertEqual(refused("letters 1 answers 1"), "answers")
        self.assertEqual(refused("letters 1 answers 5 state write 5 to 9"), "answers")
        self.assertEqual(refused("letters 1 answers 2" + " state read 1 to 99" * 9), "states")
        self.assertEqual(refused("letters 1 answers 2 state over to 9 state read 1 to 0"), "rows")
        self.assertEqual(refused("letters 1 answers 2 state read 1 to 9"), "rows")
        self.assertEqual(refused("letters 1 answers 2 state write 2 to 0 over to 9"), "rows")

    def test_the_form_is_checked_first(self):
        self.refuse("letters 9 answers 9 state read 7 to 99 ^$")
        self.refuse("letters 1 answers 2 state read 1 to 9 ^read 1 to 0")
        self.refuse("letters 0 answers 2 state over to 0 ^over")
        self.refuse("letters 1 answers 2" + " state" * 9 + " over^")


class PrintTest(unittest.TestCase):
    def test_the_form(self):
        contract = Contract(2, 3, [
            ((1, None), 2, (0, 1, 2), True, False), ((None, 2), None, (None, None, 1), False, True),
            ((0, 0), 0, (2, None, None), True, True), ((None, None), None, (None, None, None), False, False),
        ])
        self.assertEqual(print_contract(contract), "".join(line + "\n" for line in (
            "letters 2", "answers 3", "state finish", "  over to 2", "  read 0 to 1", "  write 0 to 0",
            "  write 1 to 1", "  write 2 to 2", "state silent", "  read 1 to 2", "  write 2 to 1",
            "state finish silent", "  over to 0",
            "  read 0 to 0", "  read 1 to 0", "  write 0 to 2", "state",
        )))

    def test_there_and_back(self):
        contracts = [sample_contract(), parse_contract(HEAD + FULL)]
        targets = (None, 0, 1)
        for read, over, first, second in itertools.product(targets, repeat=4):
            row = ((read,), over, (first, second), read == 0, over == 1)
            contracts.append(Contract(1, 2, [row, row]))
        for contract in contracts:
            again = parse_contract(print_contract(contract))
            self.assertEqual((again.letters, again.answers), (contract.letters, contract.answers))
            self.assertEqual(again.states, contract.states)
            self.assertEqual(print_contract(again), print_contract(contract))

    def test_the_largest_contract(self):
        row = ([7] * 3, 7, [7] * 4, True, True)
        contract = Contract(3, 4, [row] * 8)
        text = print_contract(contract)
        self.assertEqual(text.count("\n"), 2 + 8 * 9)
        self.assertEqual(parse_contract(text).states, contract.states)


if __name__ == "__main__":
    unittest.main()
