"""Points 49, 50 and 54: sets and lists of sets."""

import copy
import itertools
import random
import unittest

from allmends.duality import maximal, minimal, transversals
from tests.samples import has_only_tuples


def plain(sets):
    """The different sets, as sets."""
    return {frozenset(one) for one in sets}


def ordered(sets):
    return tuple(sorted((tuple(sorted(one)) for one in sets), key=lambda one: (len(one), one)))


def by_search(sets):
    """What `minimal`, `maximal` and `transversals` must return, found among all sets of the integers that occur."""
    members = sorted(set().union(*plain(sets))) if sets else []
    known = plain(sets)
    every = [frozenset(one) for size in range(len(members) + 1) for one in itertools.combinations(members, size)]
    low = [one for one in every if one in known and not any(other < one for other in known)]
    high = [one for one in every if one in known and not any(one < other for other in known)]
    meeting = [one for one in every if all(one & other for other in known)]
    return ordered(low), ordered(high), ordered(one for one in meeting if not any(other < one for other in meeting))


def all_three(sets):
    return minimal(sets), maximal(sets), transversals(sets)


class DualityTest(unittest.TestCase):
    def test_the_examples(self):
        self.assertEqual(transversals([(0, 1), (2, 1)]), ((1,), (0, 2)))
        self.assertEqual(
            (transversals([]), transversals([(3,), ()]), maximal([(0,), (1, 0), (0,)])), (((),), (), ((0, 1),))
        )

    def test_no_sets(self):
        for none in ([], ()):
            self.assertEqual(all_three(none), ((), (), ((),)))

    def test_an_empty_set_alone_and_among_others(self):
        self.assertEqual(all_three([()]), (((),), ((),), ()))
        self.assertEqual(all_three([[]]), (((),), ((),), ()))
        self.assertEqual(all_three([(5, 2), (), (2,)]), (((),), ((2, 5),), ()))
        self.assertEqual(all_three([(), ()]), (((),), ((),), ()))

    def test_members_in_any_order_and_more_than_once(self):
        self.assertEqual(all_three([(3, 1, 3, 2, 1)]), (((1, 2, 3),), ((1, 2, 3),), ((1,), (2,), (3,))))
        self.assertEqual(minimal([(2, 1, 2), (1, 2, 3), (3, 3)]), ((3,), (1, 2)))
        self.assertEqual(maximal([(2, 1, 2), (1, 2, 3), (4, 4), (3, 2, 1)]), ((4,), (1, 2, 3)))
        self.assertEqual(transversals([(2, 2), (2, 1, 1)]), ((2,),))

    def test_sets_given_twice(self):
        self.assertEqual(minimal([(1, 2), (2, 1), (1, 2, 2)]), ((1, 2),))
        self.assertEqual(maximal([(1, 2), (2, 1), (0,), (0, 0)]), ((0,), (1, 2)))
        self.assertEqual(transversals([(1, 2), (2, 1), (3,), (3,)]), ((1, 3), (2, 3)))

    def test_order(self):
        sets = [(5, 6), (0, 9), (7,), (1, 2, 3), (0, 8), (-1,)]
        self.assertEqual(minimal(sets), ((-1,), (7,), (0, 8), (0, 9), (5, 6), (1, 2, 3)))
        self.assertEqual(maximal(reversed_list(sets)), minimal(sets))
        # A set of fewer members comes first, whatever its members are.
        self.assertEqual(transversals([(9, 0), (9, 1)]), ((9,), (0, 1)))
        self.assertEqual(transversals([(10, 2), (3,)]), ((2, 3), (3, 10)))

    def test_negative_integers(self):
        self.assertEqual(all_three([(-1, -5), (-5, 3)]), (((-5, -1), (-5, 3)), ((-5, -1), (-5, 3)), ((-5,), (-1, 3))))

    def test_lists_in_the_place_of_tuples(self):
        sets = [(3, 1), (1, 2), (2,), (4, 1, 3)]
        lists = [list(one) for one in sets]
        before = copy.deepcopy(lists)
        self.assertEqual(all_three(lists), all_three(tuple(sets)))
        self.assertEqual(lists, before)
        found = all_three(lists)
        lists[0].append(9)
        lists.clear()
        self.assertEqual(found, all_three(sets))
        for value in found:
            self.assertTrue(has_only_tuples(value))

    def test_single_members(self):
        self.assertEqual(transversals([(4,), (1,), (0,)]), ((0, 1, 4),))
        self.assertEqual(all_three([(0,)]), (((0,),), ((0,),), ((0,),)))

    def test_ten_integers_and_eighty_sets(self):
        members = (-7, -3, 0, 1, 2, 5, 8, 13, 40, 99)
        for size in range(1, 7):
            every = list(itertools.combinations(members, size))
            sets = random.Random(size).sample(every, min(80, len(every)))
            self.assertEqual(all_three(sets), by_search(sets))
        five = [members[at:at + 2] for at in range(0, 10, 2)]
        self.assertEqual(len(transversals(five)), 2 ** 5)
        self.assertEqual(transversals(transversals(five)), ordered(five))

    def test_against_a_search(self):
        rng = random.Random(50)
        for _ in range(300):
            members = rng.sample(range(-20, 20), rng.randint(1, 8))
            sets = [
                [rng.choice(members) for _ in range(rng.randint(0 if rng.random() < 0.1 else 1, 5))]
                for _ in range(rng.randint(0, 12))
            ]
            self.assertEqual(all_three(sets), by_search(sets), sets)

    def test_transversals_of_transversals(self):
        rng = random.Random(54)
        for _ in range(100):
            sets = [rng.sample(range(8), rng.randint(1, 5)) for _ in range(rng.randint(0, 9))]
            self.assertEqual(transversals(transversals(sets)), minimal(sets))
        self.assertEqual(transversals(transversals([(1,), ()])), ((),))


def reversed_list(items):
    return list(reversed(items))


if __name__ == "__main__":
    unittest.main()
