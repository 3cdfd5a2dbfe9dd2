"""Sacks parted by weights: points 2, 20, 21."""

import copy
import itertools
import unittest
from fractions import Fraction

from tests.common import HUGE, STRANGE, Case, parted_by_words, put, resized, spoiled
from woolyears.errors import NoNumber, NoWeights
from woolyears.parting import is_fair, parted

SMALL = [row for many in (1, 2, 3, 4) for row in itertools.product((1, 2, 3, 5), repeat=many)]
WIDE = [
    (99,) * 80,
    (1,) * 80,
    (99,) + (1,) * 79,
    tuple(range(1, 81)),
    tuple(range(80, 0, -1)),
    tuple(1 + at * 37 % 99 for at in range(80)),
]


class Parted(Case):
    def test_without_rests(self):
        self.assertEqual(parted(5, (2, 4, 4)), (1, 2, 2))
        self.assertEqual(parted(50, (99, 1)), (50, 0))
        self.assertEqual(parted(3, (1, 2, 3)), (1, 1, 1))

    def test_the_greatest_rests_get_what_is_left(self):
        # Shares of 10 sacks by 3, 5, 6: 2 and 2/14, 3 and 8/14, 4 and 4/14.
        self.assertEqual(parted(10, (3, 5, 6)), (2, 4, 4))
        # Shares of 5 sacks by 1, 2, 4: 5/7, 1 and 3/7, 2 and 6/7.
        self.assertEqual(parted(5, (1, 2, 4)), (1, 1, 3))
        # Rests count, not weights. Shares of 2 sacks by 3, 8: 6/11, 1 and 5/11.
        self.assertEqual(parted(2, (3, 8)), (1, 1))
        # Nor does the place: shares of 6 sacks by 1, 5, 5: 6/11, twice 2 and 8/11.
        self.assertEqual(parted(6, (1, 5, 5)), (0, 3, 3))

    def test_of_equal_rests_the_one_ahead(self):
        self.assertEqual(parted(1, (1, 1, 1)), (1, 0, 0))
        self.assertEqual(parted(2, (1, 1, 1)), (1, 1, 0))
        self.assertEqual(parted(5, (5, 5)), (3, 2))
        self.assertEqual(parted(1, (1, 2, 2)), (0, 1, 0))
        self.assertEqual(parted(3, (7, 3, 7, 7)), (1, 0, 1, 1))
        self.assertEqual(parted(40, (1,) * 80), (1,) * 40 + (0,) * 40)

    def test_one_weight(self):
        for weight in (1, 2, 98, 99):
            for sacks in range(weight + 1):
                self.assertEqual(parted(sacks, (weight,)), (sacks,))

    def test_nothing_and_all(self):
        for weights in SMALL + WIDE:
            self.assertEqual(parted(0, weights), (0,) * len(weights))
            self.assertEqual(parted(sum(weights), weights), weights)

    def test_all_small_ones_parted_by_words(self):
        for weights in SMALL:
            for sacks in range(sum(weights) + 1):
                self.assertEqual(parted(sacks, weights), parted_by_words(sacks, weights), (sacks, weights))

    def test_wide_ones_parted_by_words(self):
        for weights in WIDE:
            for sacks in range(0, sum(weights) + 1, 1 + sum(weights) // 50):
                self.assertEqual(parted(sacks, weights), parted_by_words(sacks, weights), (sacks, weights))

    def test_none_gets_more_than_its_weight(self):
        for weights in SMALL + WIDE:
            for sacks in range(0, sum(weights) + 1, 1 + sum(weights) // 50):
                for part, weight in zip(parted(sacks, weights), weights):
                    self.assertTrue(0 <= part <= weight, (sacks, weights))

    def test_kinds(self):
        told = parted(5, (2, 3, 4))
        self.assertIs(type(told), tuple)
        self.assertEqual({type(part) for part in told}, {int})


class Refused(Case):
    """Both questions refuse the same, in the same order: the weights first."""

    def both_refuse(self, kind, sacks, weights):
        self.refused(kind, parted, sacks, weights)
        for thing in (None, (), (0,), (1, 1, 0)):
            self.refused(kind, is_fair, sacks, weights, thing)

    def test_one_to_eighty_weights(self):
        for many in (1, 2, 79, 80):
            self.assertEqual(parted(0, (3,) * many), (0,) * many)
            self.assertIs(is_fair(0, (3,) * many, (0,) * many), True)
        for many in (0, 81, 82):
            self.both_refuse(NoWeights, 0, (3,) * many)

    def test_weights_from_1_to_99(self):
        weights = (2, 3, 4)
        for at in range(3):
            for weight in (1, 2, 98, 99):
                self.assertEqual(parted(0, put(weights, at, weight)), (0, 0, 0))
                self.assertIs(is_fair(0, put(weights, at, weight), (0, 0, 0)), True)
            for weight in (0, -1, 100, HUGE, -HUGE):
                self.both_refuse(NoWeights, 0, put(weights, at, weight))

    def test_weights_of_anything(self):
        right = (1, 2, 3)
        for thing in [thing for thing in STRANGE if thing != right] + spoiled(right):
            self.both_refuse(NoWeights, 0, thing)

    def test_sacks_from_0_to_all_weights(self):
        for weights in ((1,), (99,), (2, 3, 4), (99,) * 80):
            most = sum(weights)
            self.assertEqual(parted(most, weights), weights)
            for sacks in (-1, -2, most + 1, most + 2, HUGE, -HUGE):
                self.both_refuse(NoNumber, sacks, weights)

    def test_sacks_of_anything(self):
        for thing in [thing for thing in STRANGE if type(thing) is not int]:
            self.both_refuse(NoNumber, thing, (2, 3, 4))

    def test_weights_are_looked_at_first(self):
        for sacks in (None, True, -1, 1000, HUGE, (2, 3)):
            for weights in (None, (), [2, 3], (0,), (True,), (100,), 5):
                self.both_refuse(NoWeights, sacks, weights)


class Fair(Case):
    def told(self, wanted, sacks, weights, thing):
        self.assertIs(is_fair(sacks, weights, thing), wanted, repr((sacks, weights, thing))[:300])

    def test_what_is_parted_is_fair(self):
        for weights in SMALL + WIDE:
            for sacks in range(0, sum(weights) + 1, 1 + sum(weights) // 50):
                self.told(True, sacks, weights, parted(sacks, weights))

    def test_others_are_fair_too(self):
        for thing in ((1, 0, 0), (0, 1, 0), (0, 0, 1)):
            self.told(True, 1, (1, 1, 1), thing)
        self.told(True, 10, (3, 5, 6), (3, 3, 4))
        self.told(True, 10, (3, 5, 6), (2, 3, 5))

    def test_just_one_sack_off_is_not_fair(self):
        self.told(True, 5, (2, 4, 4), (1, 2, 2))
        self.told(False, 5, (2, 4, 4), (0, 3, 2))
        self.told(False, 5, (2, 4, 4), (2, 1, 2))
        self.told(False, 5, (2, 4, 4), (1, 1, 3))

    def test_more_than_one_sack_off_is_not_fair(self):
        self.told(False, 10, (3, 5, 6), (1, 4, 5))
        self.told(False, 10, (3, 5, 6), (4, 3, 3))
        self.told(False, 10, (3, 5, 6), (10, 0, 0))
        self.told(False, 0, (1, 1), (1, -1))
        self.told(False, 0, (1, 1), (HUGE, -HUGE))

    def test_together_the_sacks(self):
        # Each of these is less than one sack off, and yet they are not all.
        self.told(False, 1, (1, 1, 1), (0, 0, 0))
        self.told(False, 1, (1, 1, 1), (1, 1, 0))
        self.told(False, 10, (3, 5, 6), (2, 3, 4))
        self.told(False, 10, (3, 5, 6), (3, 4, 5))

    def test_one_for_each_weight(self):
        for row in resized((2, 4, 4)):
            self.told(False, 10, (3, 5, 6), row)
        self.told(False, 10, (3, 5, 6), (2, 4, 4, 0))
        self.told(False, 2, (1, 1, 1), (1, 1))

    def test_all_small_ones_parted_by_words(self):
        for weights in ((1,), (1, 1), (1, 2), (3, 2), (1, 1, 1), (2, 1, 3), (1, 5, 2)):
            for sacks in range(sum(weights) + 1):
                for thing in itertools.product(range(-2, sum(weights) + 2), repeat=len(weights)):
                    shares = [Fraction(sacks * weight, sum(weights)) for weight in weights]
                    near = all(abs(part - share) < 1 for part, share in zip(thing, shares))
                    self.told(near and sum(thing) == sacks, sacks, weights, thing)

    def test_of_anything(self):
        right = (2, 4, 4)
        for thing in list(STRANGE) + spoiled(right):
            self.told(False, 10, (3, 5, 6), thing)
        for thing in STRANGE:
            self.told(False, 2, (3,), thing)
        self.told(False, 1, (1,), (True,))
        self.told(False, 0, (1,), (False,))
        self.told(False, 1, (1, 1), (True, False))

    def test_with_eighty_weights(self):
        for weights in WIDE:
            told = parted(40, weights)
            self.told(True, 40, weights, told)
            self.told(False, 40, weights, told[:-1])
            self.told(False, 40, weights, list(told))
            self.told(False, 40, weights, put(told, 79, told[79] + 1))


class Own(Case):
    """Point 2: nothing handed in is changed or kept, and the same is told when it is asked again."""

    def test_nothing_handed_in_is_changed(self):
        for thing in list(STRANGE) + spoiled((2, 4, 4)):
            kept = copy.deepcopy(thing)
            told = is_fair(10, (3, 5, 6), thing)
            self.assertIs(is_fair(10, (3, 5, 6), thing), told)
            self.assertEqual(repr(thing), repr(kept))

    def test_lists_in_the_place_of_weights_stay(self):
        weights = [3, 5, 6]
        self.refused(NoWeights, parted, 10, weights)
        self.refused(NoWeights, is_fair, 10, weights, (2, 4, 4))
        self.assertEqual(weights, [3, 5, 6])

    def test_asked_again_the_same_is_told(self):
        for _ in range(3):
            self.assertEqual(parted(10, (3, 5, 6)), (2, 4, 4))
            self.assertEqual(parted(2, (1, 1, 1)), (1, 1, 0))
            self.assertIs(is_fair(10, (3, 5, 6), (2, 4, 4)), True)
            self.refused(NoNumber, parted, 15, (3, 5, 6))

    def test_what_was_told_may_be_handed_in_again(self):
        told = parted(14, (3, 5, 6))
        self.assertEqual(parted(10, told), (2, 4, 4))


if __name__ == "__main__":
    unittest.main()
