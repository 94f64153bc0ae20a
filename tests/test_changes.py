import copy
import itertools
import unittest

from allmends.changes import Change, turned
from allmends.errors import InvalidChange
from allmends.notation import parse_program
from tests.samples import has_only_tuples, sample_program

ENTRIES = [(0, (0,), 0), (0, (2,), 1), (1, (0,), 1), (1, (1,), 0)]


def two_procedures():
    """Places 0 and 1 have sights of two values, place 2 of three, place 3 of one."""
    return parse_program(
        "letters 1 answers 2 global g 2 proc main() local x 3 x = g - 1 call p(x, 1) end "
        "proc p(a 2, b 2) if a == b then end end proc q() write g end"
    )


class ChangeTest(unittest.TestCase):
    def test_places_in_any_order(self):
        for places in itertools.permutations((7, -3, 0, 100)):
            self.assertEqual(Change(places).places, (-3, 0, 7, 100))
            self.assertEqual(Change(list(places)).places, (-3, 0, 7, 100))
        self.assertEqual((Change([]).places, Change(()).entries), ((), ()))
        self.assertEqual(Change([4]).entries, ())

    def test_entries_in_any_order(self):
        for entries in itertools.permutations(ENTRIES):
            for made in (list, tuple):
                change = Change(made([1, 0]), made(entries))
                self.assertEqual(change.entries, tuple(ENTRIES))
                self.assertEqual(list(change), ENTRIES)
        entries = [(1, (0, 1), 0), (0, (1, 0), 1), (0, (0, 1), 2), (0, (0,), 1), (-1, (), 3)]
        self.assertEqual(Change([0, 1, -1], entries).entries, tuple(sorted(entries)))

    def test_places_that_no_program_has(self):
        change = Change([-5, 9999], [(9999, (7, 8), 50), (-5, (), -1)])
        self.assertEqual(change.entries, ((-5, (), -1), (9999, (7, 8), 50)))
        self.assertEqual(change.value(9999, (7, 8)), 50)

    def test_what_is_refused(self):
        for places, entries in (
            ([1, 1], []), ([0, 2, 0], []), ([-1, -1], []),
            ([], [(0, (0,), 0)]), ([1], [(0, (0,), 0)]), ([0], [(0, (0,), 0), (-1, (0,), 0)]),
            ([0], [(0, (0,), 0), (0, (0,), 0)]), ([0], [(0, (0,), 0), (0, (1,), 0), (0, (0,), 1)]),
            ([0, 0], [(0, (0,), 0)]),
        ):
            with self.assertRaises(InvalidChange):
                Change(places, entries)
            with self.assertRaises(InvalidChange):
                Change(tuple(places), tuple(entries))
        Change([0, 1], [(0, (0,), 0), (0, (0, 0), 0), (1, (0,), 0), (0, (), 0)])

    def test_lists_are_copied_and_not_modified(self):
        places = [1, 0]
        entries = [(1, (0,), 1), (0, (0,), 0)]
        before = copy.deepcopy((places, entries))
        change = Change(places, entries)
        self.assertEqual((places, entries), before)
        places.append(5)
        entries.clear()
        self.assertEqual(change.places, (0, 1))
        self.assertEqual(change.entries, ((0, (0,), 0), (1, (0,), 1)))
        self.assertEqual((len(change), change.value(1, (0,)), (1, (0,)) in change), (2, 1, True))

    def test_sights_that_are_lists_become_tuples(self):
        change = Change([0], [[0, [0, 1], 1]])
        self.assertEqual(change.entries, ((0, (0, 1), 1),))
        self.assertTrue(has_only_tuples(change.entries))
        self.assertEqual(change.value(0, [0, 1]), 1)
        self.assertEqual(change.with_entry(0, [0, 1], 2).entries, ((0, (0, 1), 2),))

    def test_iteration_and_length(self):
        change = Change([1, 0], ENTRIES[::-1])
        self.assertEqual(list(change), ENTRIES)
        self.assertEqual(list(change), ENTRIES)
        self.assertEqual(tuple(change), change.entries)
        self.assertEqual([len(Change([0, 1], ENTRIES[:many])) for many in range(5)], [0, 1, 2, 3, 4])
        self.assertEqual(list(Change([3])), [])

    def test_contains(self):
        change = Change([0, 1, 2], ENTRIES)
        for place, sight in itertools.product(range(-1, 4), [(), (0,), (1,), (2,), (0, 0)]):
            expected = any((place, sight) == entry[:2] for entry in ENTRIES)
            self.assertIs((place, sight) in change, expected)
            self.assertIs((place, sight) not in change, not expected)
        self.assertIs((0, (0,)) in Change([0]), False)

    def test_a_value_of_0_is_set(self):
        change = Change([0], [(0, (0,), 0)])
        self.assertIs((0, (0,)) in change, True)
        self.assertEqual(change.value(0, (0,)), 0)
        self.assertIsNone(change.value(0, (1,)))

    def test_value(self):
        change = Change([0, 1, 2], ENTRIES)
        for place, sight, value in ENTRIES:
            self.assertEqual(change.value(place, sight), value)
        for place, sight in ((0, (1,)), (2, (0,)), (9, (0,)), (-1, (0,)), (0, ()), (0, (0, 0))):
            self.assertIsNone(change.value(place, sight))

    def test_equality(self):
        change = Change([0, 1], ENTRIES)
        self.check_equal(change, change)
        self.check_equal(change, Change((1, 0), tuple(ENTRIES[::-1])))
        self.check_equal(Change([]), Change((), []))
        others = [
            Change([0, 1], ENTRIES[:3]), Change([0, 1, 2], ENTRIES), Change([0, 1]), Change([]),
            Change([0, 1], ENTRIES[:3] + [(1, (1,), 1)]), Change([0, 1], ENTRIES[:3] + [(1, (2,), 0)]),
            Change([0, 1], ENTRIES + [(1, (2,), 0)]),
        ]
        for other in others:
            self.check_different(change, other)
        self.check_different(Change([0]), Change([1]))
        self.check_different(Change([0], [(0, (0,), 0)]), Change([0], [(0, (0, 0), 0)]))

    def test_a_change_is_not_equal_to_anything_else(self):
        for change in (Change([0, 1], ENTRIES), Change([])):
            for other in (None, 0, "", (), [], change.entries, list(change), (change.places, change.entries), object(),
                          sample_program()):
                self.check_different(change, other)

    def check_equal(self, one, other):
        for first, second in ((one, other), (other, one)):
            self.assertIs(first == second, True)
            self.assertIs(first != second, False)

    def check_different(self, one, other):
        for first, second in ((one, other), (other, one)):
            self.assertIs(first == second, False)
            self.assertIs(first != second, True)

    def test_with_entry(self):
        change = Change([1, 0], [(0, (1,), 1)])
        later = change.with_entry(0, (0,), 2)
        self.assertIsInstance(later, Change)
        self.assertEqual((later.places, later.entries), ((0, 1), ((0, (0,), 2), (0, (1,), 1))))
        self.assertEqual(later.with_entry(1, (0,), 0).entries, ((0, (0,), 2), (0, (1,), 1), (1, (0,), 0)))
        anew = later.with_entry(0, (1,), 0)
        self.assertEqual(anew.entries, ((0, (0,), 2), (0, (1,), 0)))
        self.assertEqual(anew.value(0, (1,)), 0)
        self.assertEqual(later.with_entry(0, (1,), 1), later)
        self.assertEqual(change.with_entry(1, (1,), 5).entries, ((0, (1,), 1), (1, (1,), 5)))
        self.assertEqual(change, Change([1, 0], [(0, (1,), 1)]))
        self.assertEqual(later.entries, ((0, (0,), 2), (0, (1,), 1)))

    def test_with_entry_of_another_place(self):
        change = Change([0, 1], ENTRIES)
        for place in (2, -1, 100):
            with self.assertRaises(InvalidChange):
                change.with_entry(place, (0,), 0)
        with self.assertRaises(InvalidChange):
            Change([]).with_entry(0, (0,), 0)
        self.assertEqual(change, Change([0, 1], ENTRIES))


class FitsTest(unittest.TestCase):
    def check(self, expected, places, entries=(), program=None):
        program = sample_program() if program is None else program
        self.assertIs(Change(places, entries).fits(program), expected, (places, entries))

    def test_places(self):
        for places in ([], [0], [1], [0, 1]):
            self.check(True, places)
        for places in ([2], [-1], [0, 1, 2], [-1, 0], [-2], [500]):
            self.check(False, places)

    def test_sights(self):
        for sight in ((0,), (1,), (2,)):
            self.check(True, [0], [(0, sight, 0)])
        for sight in ((3,), (-1,), (), (0, 0), (0, 0, 0)):
            self.check(False, [0], [(0, sight, 0)])
            self.check(False, [0], [(0, (0,), 0), (0, sight, 0)])

    def test_values(self):
        for value in (0, 1, 2):
            self.check(True, [0], [(0, (0,), value)])
        for value in (0, 1):
            self.check(True, [1], [(1, (0,), value)])
        for value in (3, -1, 10):
            self.check(False, [0, 1], [(0, (0,), value)])
        for value in (2, -1):
            self.check(False, [0, 1], [(1, (0,), value), (0, (0,), 2)])

    def test_each_place_has_the_sights_of_its_procedure(self):
        program = two_procedures()
        self.assertEqual([row[:3] for row in program.places], [
            (0, "set", 3), (0, "pass", 2), (0, "pass", 2), (1, "test", 2), (2, "write", 2),
        ])
        self.check(True, [0, 3, 4], [(0, (1, 2), 2), (3, (1, 1, 1), 1), (4, (1,), 1)], program)
        self.check(False, [3], [(3, (1, 2, 1), 1)], program)
        self.check(False, [3], [(3, (1, 2), 1)], program)
        self.check(False, [4], [(4, (1, 1), 1)], program)
        self.check(False, [1], [(1, (1, 2), 2)], program)
        self.check(False, [3], [(3, (0, 0, 0), 2)], program)

    def test_a_whole_change(self):
        program = two_procedures()
        entries = [
            (place, sight, row[2] - 1) for place, row in enumerate(program.places) for sight in program.sights(row[0])
        ]
        self.check(True, range(5), entries, program)
        self.check(False, range(5), entries, sample_program())


class TurnedTest(unittest.TestCase):
    def test_elder_values_are_left_out(self):
        program = two_procedures()
        for value in range(3):
            change = Change([0], [(0, sight, value) for sight in program.sights(0)])
            expected = [(0, sight, value) for sight in program.sights(0) if (sight[0] - 1) % 3 != value]
            self.assertEqual(turned(program, change), tuple(expected))
            self.assertTrue(has_only_tuples(turned(program, change)))

    def test_all_places_in_ascending_order(self):
        program = two_procedures()
        entries = [
            (4, (1,), 0), (3, (0, 1, 0), 1), (3, (0, 1, 1), 0), (3, (0, 0, 0), 1), (0, (1, 0), 0), (0, (1, 1), 2),
            (2, (0, 0), 0), (1, (0, 2), 1), (1, (0, 1), 1), (1, (0, 0), 1),
        ]
        self.assertEqual(turned(program, Change(range(5), entries)), (
            (0, (1, 1), 2), (1, (0, 0), 1), (1, (0, 2), 1), (2, (0, 0), 0), (3, (0, 1, 0), 1), (3, (0, 1, 1), 0),
            (4, (1,), 0),
        ))

    def test_nothing_is_turned(self):
        program = sample_program()
        self.assertEqual(turned(program, Change([])), ())
        self.assertEqual(turned(program, Change([0, 1])), ())
        self.assertEqual(turned(program, Change([0], [(0, (0,), 0)])), ())
        self.assertEqual(turned(program, Change([0], [(0, (0,), 1)])), ((0, (0,), 1),))


if __name__ == "__main__":
    unittest.main()
