"""A flock that two houses share: points 2, 72."""

import itertools
import unittest

from tests.common import HUGE, NO_CLIPS, SOME_CLIPS, Case, no_whole_from, parted_by_words, some_books
from woolyears.books import are_clips
from woolyears.errors import NoClips, NoWeights
from woolyears.moves import lessened, shared_by


class Shared(Case):
    def test_by_like_weights(self):
        wanted = (((5, 2, 4), (50, 50, 51), (1, 0, 500)), ((5, 1, 3), (49, 50, 50), (0, 0, 499)))
        for weight in (1, 2, 50, 99):
            self.assertEqual(shared_by(SOME_CLIPS, weight, weight), wanted)

    def test_by_unlike_weights(self):
        wanted = (((7, 2, 5), (66, 67, 67), (1, 0, 666)), ((3, 1, 2), (33, 33, 34), (0, 0, 333)))
        for one, other in ((2, 1), (66, 33), (98, 49)):
            self.assertEqual(shared_by(SOME_CLIPS, one, other), wanted)

    def test_by_the_least_weight_and_the_most(self):
        wanted = (((0, 0, 0), (1, 1, 1), (0, 0, 10)), ((10, 3, 7), (98, 99, 100), (1, 0, 989)))
        self.assertEqual(shared_by(SOME_CLIPS, 1, 99), wanted)
        self.assertEqual(shared_by(SOME_CLIPS, 99, 1), wanted[::-1])

    def test_of_equal_rests_the_first(self):
        # Of two sacks by 1 and 3 each has a half as its rest; so of 50 by 1 and 99.
        self.assertEqual(shared_by(((2, 1, 3),), 1, 3), (((1, 0, 1),), ((1, 1, 2),)))
        self.assertEqual(shared_by(((2, 6, 10),), 3, 1), (((2, 5, 8),), ((0, 1, 2),)))
        self.assertEqual(shared_by(((50, 49, 51),), 1, 99), (((1, 0, 1),), ((49, 49, 50),)))

    def test_numbers_greater_than_both_weights(self):
        self.assertEqual(shared_by(((999, 998, 3),), 1, 1), (((500, 499, 2),), ((499, 499, 1),)))
        self.assertEqual(shared_by(((999, 6, 5),), 2, 3), (((400, 2, 2),), ((599, 4, 3),)))

    def test_by_the_words(self):
        numbers = [n % 1000 for n in range(1020)]
        for one, other in ((1, 1), (1, 3), (3, 5), (2, 98), (99, 98), (13, 99), (50, 25)):
            for at in range(0, 1020, 60):
                clips = tuple(tuple(numbers[n:n + 3]) for n in range(at, at + 60, 3))
                told = shared_by(clips, one, other)
                for year, clip in enumerate(clips):
                    wanted = tuple(parted_by_words(sacks, (one, other)) for sacks in clip)
                    self.assertEqual(tuple(zip(told[0][year], told[1][year])), wanted, (clip, one, other))

    def test_by_all_weights(self):
        for one, other in itertools.product(range(1, 100), repeat=2):
            wanted = tuple(zip(*[parted_by_words(sacks, (one, other)) for sacks in (1, 50, 997)]))
            self.assertEqual(shared_by(((1, 50, 997),), one, other), ((wanted[0],), (wanted[1],)), (one, other))

    def test_both_together_are_the_flock(self):
        for clips in [book[0] for book in some_books(72, 60)]:
            first, second = shared_by(clips, 7, 12)
            self.assertIs(are_clips(first), True)
            self.assertIs(are_clips(second), True)
            both = tuple(tuple(a + b for a, b in zip(one, other)) for one, other in zip(first, second))
            self.assertEqual(both, clips)

    def test_what_was_told_may_be_handed_in_again(self):
        first, second = shared_by(SOME_CLIPS, 1, 2)
        self.assertEqual(shared_by(second, 1, 1)[1], ((3, 1, 2), (33, 33, 33), (0, 0, 333)))
        self.assertEqual(lessened(first, 0, 0, 100), ((0, 1, 2), (0, 33, 34), (0, 0, 333)))

    def test_kinds(self):
        told = shared_by(SOME_CLIPS, 1, 2)
        self.assertEqual((type(told), len(told)), (tuple, 2))
        self.assertEqual({type(clips) for clips in told}, {tuple})
        self.assertEqual({(type(clip), len(clip)) for clips in told for clip in clips}, {(tuple, 3)})
        self.assertEqual({type(sacks) for clips in told for clip in clips for sacks in clip}, {int})

    def test_one_year_and_twenty(self):
        self.assertEqual(shared_by(((1, 1, 1),), 1, 1), (((1, 1, 1),), ((0, 0, 0),)))
        self.assertEqual(shared_by(((1, 1, 1),) * 20, 1, 2), (((0, 0, 0),) * 20, ((1, 1, 1),) * 20))


class Refused(Case):
    def test_what_is_no_clips(self):
        for thing in NO_CLIPS:
            self.refused(NoClips, shared_by, thing, 1, 1)

    def test_what_is_no_weight(self):
        for weight in no_whole_from(1, 99):
            self.refused(NoWeights, shared_by, SOME_CLIPS, weight, 1)
            self.refused(NoWeights, shared_by, SOME_CLIPS, 1, weight)
            self.refused(NoWeights, shared_by, SOME_CLIPS, weight, weight)
            self.refused(NoWeights, shared_by, ((0, 0, 0),), 99, weight)

    def test_in_order(self):
        wrong = (None, True, 0, 100, HUGE, (1,), [1])
        for one, other in itertools.product((1,) + wrong, repeat=2):
            for thing in (None, (), list(SOME_CLIPS), SOME_CLIPS[0], SOME_CLIPS * 7):
                self.refused(NoClips, shared_by, thing, one, other)


class Own(Case):
    """Point 2."""

    def test_nothing_handed_in_is_changed(self):
        for thing in NO_CLIPS:
            kept = repr(thing)
            self.refused(NoClips, shared_by, thing, 1, 2)
            self.assertEqual(repr(thing), kept)

    def test_by_turns_and_again(self):
        asked = [(book[0], 1 + at, 99 - 2 * at) for at, book in enumerate(some_books(70, 40))]
        wanted = [shared_by(*each) for each in asked]
        self.refused(NoWeights, shared_by, SOME_CLIPS, 0, 1)
        self.assertEqual([shared_by(*each) for each in asked], wanted)


if __name__ == "__main__":
    unittest.main()
