"""The package's own module matching: against all ways to give things to rows."""

import itertools
import unittest

from pairpicks.matching import in_want, matched
from tests.helper import Dice


def most_by_hand(wishes):
    """How many rows can have a thing."""
    best = 0
    for row in itertools.product(*[things + [None] for things in wishes.values()]):
        had = [thing for thing in row if thing is not None]
        if len(set(had)) == len(had):
            best = max(best, len(had))
    return best


class Matching(unittest.TestCase):
    def test_small_wishes(self):
        dice = Dice(310)
        for _ in range(400):
            wishes = {row: sorted(dice.part(range(5), dice.number(0, 3))) for row in range(dice.number(0, 5))}
            owners = matched(wishes)
            self.assertEqual(len(owners), most_by_hand(wishes))
            self.assertEqual(len(set(owners.values())), len(owners))
            self.assertTrue(all(thing in wishes[owners[thing]] for thing in owners))
            lot = in_want(wishes, owners)
            self.assertEqual(lot, sorted(lot))
            things = {thing for row in lot for thing in wishes[row]}
            self.assertEqual(len(lot) - len(things), len(wishes) - len(owners))
            self.assertLessEqual(set(wishes) - set(owners.values()), set(lot))

    def test_nothing(self):
        self.assertEqual([matched({}), in_want({}, {})], [{}, []])
        self.assertEqual([matched({3: []}), in_want({3: []}, {})], [{}, [3]])


if __name__ == "__main__":
    unittest.main()
