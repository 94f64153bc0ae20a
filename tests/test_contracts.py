import copy
import itertools
import unittest

from allmends.contracts import Contract, both
from allmends.errors import InvalidContract, Mismatch, TooLarge
from tests.samples import has_only_tuples, open_state, sample_contract

EVENTS = [("over",), ("read", 0), ("read", 1), ("write", 0), ("write", 1), ("write", 2)]


def reason(letters=1, answers=2, states=None):
    """The reason with which a contract is refused, or None if it is not refused."""
    try:
        Contract(letters, answers, [open_state(letters, answers)] if states is None else states)
    except InvalidContract as error:
        return error.reason
    return None


def sample():
    """A contract in which each event of each state has a target of its own kind."""
    return Contract(2, 3, [
        ((1, None), 2, (0, 1, 2), True, False),
        ((None, 2), None, (None, None, 1), False, True),
        ((0, 0), 0, (2, None, None), True, True),
    ])


class ContractTest(unittest.TestCase):
    def test_attributes(self):
        contract = Contract(2, 3, [open_state(2, 3, None, False, True), open_state(2, 3, 1, True, False)])
        self.assertEqual((contract.letters, contract.answers), (2, 3))
        self.assertEqual(contract.states, (
            ((None, None), None, (None, None, None), False, True), ((1, 1), 1, (1, 1, 1), True, False),
        ))

    def test_letters_and_answers(self):
        for letters in (1, 2, 3):
            for answers in (2, 3, 4):
                self.assertIsNone(reason(letters, answers))
        for letters in (0, 4, -1, 50):
            self.assertEqual(reason(letters, 2), "letters")
        for answers in (1, 5, 0, -2):
            self.assertEqual(reason(1, answers), "answers")

    def test_states(self):
        for many in range(1, 9):
            self.assertIsNone(reason(states=[open_state()] * many))
        for many in (0, 9, 20):
            self.assertEqual(reason(states=[open_state()] * many), "states")

    def test_rows(self):
        for letters, answers in ((1, 2), (2, 3), (3, 4)):
            for reads in range(6):
                for writes in range(6):
                    state = ([0] * reads, None, [None] * writes, True, True)
                    expected = None if (reads, writes) == (letters, answers) else "rows"
                    self.assertEqual(reason(letters, answers, [state]), expected)
                    self.assertEqual(reason(letters, answers, [open_state(letters, answers), state]), expected)

    def test_target(self):
        for many in (1, 2, 8):
            for target, expected in (
                (None, None), (0, None), (many - 1, None), (many, "target"), (many + 1, "target"), (-1, "target"),
            ):
                for at in range(4):
                    targets = [None] * 4
                    targets[at] = target
                    state = (targets[:1], targets[1], targets[2:], False, False)
                    self.assertEqual(reason(states=[state] + [open_state()] * (many - 1)), expected)
                    self.assertEqual(reason(states=[open_state()] * (many - 1) + [state]), expected)

    def test_the_earlier_reason_is_raised(self):
        short = [([], 0, [0], True, True)]
        wrong = [open_state(target=5)]
        self.assertEqual(reason(0, 9, []), "letters")
        self.assertEqual(reason(0, 2, wrong), "letters")
        self.assertEqual(reason(4, 2, short), "letters")
        self.assertEqual(reason(1, 5, []), "answers")
        self.assertEqual(reason(1, 1, short), "answers")
        self.assertEqual(reason(1, 1, wrong), "answers")
        self.assertEqual(reason(1, 2, short * 9), "states")
        self.assertEqual(reason(1, 2, wrong * 9), "states")
        self.assertEqual(reason(1, 2, wrong + short), "rows")
        self.assertEqual(reason(1, 2, short + wrong), "rows")
        self.assertEqual(reason(1, 2, [([7], -1, [0], True, True)]), "rows")

    def test_lists_and_tuples_do_the_same(self):
        states = [open_state(2, 3, 1), open_state(2, 3, None, False, False)]
        as_tuples = tuple((tuple(row[0]), row[1], tuple(row[2]), row[3], row[4]) for row in states)
        self.assertEqual(Contract(2, 3, states).states, as_tuples)
        self.assertEqual(Contract(2, 3, as_tuples).states, as_tuples)
        self.assertTrue(has_only_tuples(Contract(2, 3, states).states))

    def test_lists_are_copied_and_not_modified(self):
        states = [open_state(2, 3, 1), open_state(2, 3, None, False, False)]
        before = copy.deepcopy(states)
        contract = Contract(2, 3, states)
        told = contract.states
        self.assertEqual(states, before)
        states[0][0][0] = None
        states[1][2].append(0)
        states.pop()
        self.assertEqual(contract.states, told)
        self.assertEqual(contract.follow(0, ("read", 0)), 1)

    def test_flags_stay_true_and_false(self):
        states = [open_state(finish=finish, silence=silence) for finish in (True, False) for silence in (True, False)]
        flags = [flag for row in Contract(1, 2, states).states for flag in row[3:]]
        self.assertEqual([type(flag) for flag in flags], [bool] * 8)
        self.assertEqual(flags, [True, True, True, False, False, True, False, False])


class FollowTest(unittest.TestCase):
    def test_the_example(self):
        self.assertEqual(sample_contract().follow(2, ("write", 1)), 4)
        self.assertIsNone(sample_contract().follow(2, ("write", 0)))

    def test_each_event_in_each_state(self):
        expected = [[2, 1, None, 0, 1, 2], [None, None, 2, None, None, 1], [0, 0, 0, 2, None, None]]
        contract = sample()
        for state in range(3):
            self.assertEqual([contract.follow(state, event) for event in EVENTS], expected[state])


class AmendedContractTest(unittest.TestCase):
    def test_with_row(self):
        contract = sample()
        before = contract.states
        for state, event, target in itertools.product(range(3), EVENTS, (None, 0, 1, 2)):
            later = contract.with_row(state, event, target)
            self.assertIsInstance(later, Contract)
            self.assertTrue(has_only_tuples(later.states))
            self.assertEqual((later.letters, later.answers, len(later.states)), (2, 3, 3))
            for other, kind in itertools.product(range(3), EVENTS):
                expected = target if (other, kind) == (state, event) else contract.follow(other, kind)
                self.assertEqual(later.follow(other, kind), expected)
            self.assertEqual([row[3:] for row in later.states], [row[3:] for row in before])
            self.assertEqual(contract.states, before)

    def test_with_row_refuses_a_target(self):
        contract = sample()
        for state, event, target in itertools.product(range(3), EVENTS, (-1, 3, 8)):
            with self.assertRaises(InvalidContract) as caught:
                contract.with_row(state, event, target)
            self.assertEqual(caught.exception.reason, "target")
        self.assertEqual(contract.states, sample().states)

    def test_with_flags(self):
        contract = sample()
        before = contract.states
        for state, finish, silence in itertools.product(range(3), (None, True, False), (None, True, False)):
            later = contract.with_flags(state, finish=finish, silence=silence)
            expected = [list(row) for row in before]
            if finish is not None:
                expected[state][3] = finish
            if silence is not None:
                expected[state][4] = silence
            self.assertEqual(later.states, tuple(tuple(row) for row in expected))
            self.assertTrue(all(isinstance(flag, bool) for row in later.states for flag in row[3:]))
            self.assertEqual((later.letters, later.answers), (2, 3))
            self.assertEqual(contract.states, before)

    def test_flags_that_are_left_out(self):
        contract = sample()
        self.assertEqual(contract.with_flags(0).states, contract.states)
        self.assertEqual(contract.with_flags(0, finish=False).states[0][3:], (False, False))
        self.assertEqual(contract.with_flags(0, silence=True).states[0][3:], (True, True))
        self.assertEqual(contract.with_flags(0, finish=False).states[1:], contract.states[1:])
        with self.assertRaises(TypeError):
            contract.with_flags(0, True)

    def test_amended_twice(self):
        later = sample().with_row(0, ("over",), None).with_row(0, ("over",), 2).with_flags(1, finish=True)
        self.assertEqual(later.states, sample().with_flags(1, finish=True).states)


def chain(many, letters=1):
    """A contract of so many states, each read of letter 0 leading to the next one and then around."""
    return Contract(letters, 2, [
        ([(at + 1) % many] + [None] * (letters - 1), None, [at, None], True, True) for at in range(many)
    ])


class BothTest(unittest.TestCase):
    def test_states_are_numbered_as_they_are_met(self):
        first = Contract(2, 2, [
            ((1, 2), 3, (None, None), True, False), ((0, 1), None, (1, 1), True, True),
            ((2, 2), None, (3, 0), False, False), ((3, 3), None, (3, 3), True, True),
        ])
        everything = Contract(2, 2, [open_state(2, 2)])
        # State 3 is met first, by the over event, then 1 and 2 by the letters.
        expected = (
            ((2, 3), 1, (None, None), True, False), ((1, 1), None, (1, 1), True, True),
            ((0, 2), None, (2, 2), True, True), ((3, 3), None, (1, 0), False, False),
        )
        self.assertEqual(both(first, everything).states, expected)
        self.assertEqual(both(everything, first).states, expected)
        self.assertEqual((both(first, everything).letters, both(first, everything).answers), (2, 2))

    def test_writes_come_after_reads(self):
        first = Contract(1, 2, [
            ((3,), None, (2, 1), True, True), ((1,), 0, (0, 0), True, False), ((2,), 0, (0, 0), False, True),
            ((3,), 0, (0, 0), False, False),
        ])
        self.assertEqual(both(first, Contract(1, 2, [open_state()])).states, (
            ((1,), None, (2, 3), True, True), ((1,), 0, (0, 0), False, False), ((2,), 0, (0, 0), False, True),
            ((3,), 0, (0, 0), True, False),
        ))

    def test_states_are_met_in_the_order_of_their_numbers(self):
        first = Contract(1, 2, [
            ((1,), None, (2, None), True, True), ((3,), None, (None, None), True, False),
            ((4,), None, (None, None), False, True), ((3,), None, (None, None), False, False),
            ((4,), 0, (None, None), True, True),
        ])
        self.assertEqual(both(first, Contract(1, 2, [open_state()])).states, first.states)

    def test_targets(self):
        for one, other in itertools.product((None, 0, 1), repeat=2):
            first = Contract(1, 2, [((0,), one, (0, 0), True, True), ((None,), None, (None, None), False, True)])
            second = Contract(1, 2, [((0,), other, (0, 0), True, True), ((None,), None, (None, None), True, False)])
            found = both(first, second)
            if one is None or other is None:
                self.assertEqual(found.states, (((0,), None, (0, 0), True, True),))
            elif (one, other) == (0, 0):
                self.assertEqual(found.states, (((0,), 0, (0, 0), True, True),))
            else:
                self.assertEqual(found.states[0], ((0,), 1, (0, 0), True, True))
                self.assertEqual(len(found.states), 2)

    def test_flags(self):
        for flags in itertools.product((True, False), repeat=4):
            first = Contract(1, 2, [open_state(finish=flags[0], silence=flags[1])])
            second = Contract(1, 2, [open_state(finish=flags[2], silence=flags[3])])
            row = both(first, second).states[0]
            self.assertEqual(row[3:], (flags[0] and flags[2], flags[1] and flags[3]))
            self.assertEqual([type(flag) for flag in row[3:]], [bool, bool])

    def test_only_reached_pairs_get_a_number(self):
        idle = open_state(1, 2, 1)
        first = Contract(1, 2, [open_state(), idle, idle])
        second = Contract(1, 2, [([None], None, [None, None], True, True), idle])
        self.assertEqual(both(first, first).states, (((0,), 0, (0, 0), True, True),))
        self.assertEqual(both(first, second).states, (((None,), None, (None, None), True, True),))

    def test_pairs_met_on_several_ways(self):
        first = Contract(1, 2, [((1,), 1, (1, 0), True, True), ((0,), 0, (0, 1), True, True)])
        found = both(first, first)
        self.assertEqual(found.states, (((1,), 1, (1, 0), True, True), ((0,), 0, (0, 1), True, True)))

    def test_what_follows_is_the_pair_of_what_follows(self):
        first = Contract(1, 2, [((1,), 0, (1, None), True, True), ((0,), 2, (2, 0), False, True),
                                ((2,), None, (0, 1), True, False)])
        second = Contract(1, 2, [((0,), 1, (1, 0), True, False), ((1,), 0, (0, 1), True, True)])
        found = both(first, second)
        events = [("over",), ("read", 0), ("write", 0), ("write", 1)]
        for word in itertools.product(events, repeat=5):
            states = [0, 0, 0]
            for event in word:
                for at, contract in enumerate((first, second, found)):
                    states[at] = None if states[at] is None else contract.follow(states[at], event)
            self.assertEqual(states[2] is None, states[0] is None or states[1] is None)
            if states[2] is not None:
                self.assertEqual(found.states[states[2]][3],
                                 first.states[states[0]][3] and second.states[states[1]][3])

    def test_eight_pairs_and_nine(self):
        self.assertEqual(len(both(chain(1), chain(8)).states), 8)
        self.assertEqual(len(both(chain(2), chain(8)).states), 8)
        self.assertEqual(len(both(chain(8), chain(8)).states), 8)
        self.assertEqual(len(both(chain(6), chain(2)).states), 6)
        for first, second in ((3, 4), (2, 5), (3, 8), (7, 8)):
            for one, other in ((first, second), (second, first)):
                with self.assertRaises(TooLarge) as caught:
                    both(chain(one), chain(other))
                self.assertEqual(caught.exception.what, "states")

    def test_exactly_nine_pairs(self):
        three = Contract(1, 2, [(((at + 1) % 3,), None, (at, None), True, True) for at in range(3)])
        other = Contract(1, 2, [((at,), None, ((at + 1) % 3, None), True, True) for at in range(3)])
        with self.assertRaises(TooLarge) as caught:
            both(three, other)
        self.assertEqual(caught.exception.what, "states")
        two = Contract(1, 2, [((at,), None, ((at + 1) % 2, None), True, True) for at in range(2)])
        self.assertEqual(len(both(three, two).states), 6)
        four = Contract(1, 2, [(((at + 1) % 4,), None, (at, None), True, True) for at in range(4)])
        self.assertEqual(len(both(four, two).states), 8)

    def test_contracts_that_differ(self):
        for letters, answers in ((2, 2), (1, 3), (2, 3), (3, 4)):
            for first, second in itertools.permutations(((1, 2), (letters, answers))):
                with self.assertRaises(Mismatch):
                    both(*[Contract(*one, [open_state(*one)]) for one in (first, second)])
        with self.assertRaises(Mismatch):
            both(chain(3), chain(4, letters=2))

    def test_the_contracts_stay_as_they_are(self):
        first = sample()
        second = first.with_flags(0, finish=False)
        both(first, second)
        self.assertEqual(first.states, sample().states)
        found = both(second, first)
        self.assertTrue(has_only_tuples(found.states))
        self.assertEqual(both(second, first).states, found.states)


if __name__ == "__main__":
    unittest.main()
