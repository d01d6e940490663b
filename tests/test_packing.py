"""Sites that save as much as one likes, which the sites of texts do not, against all sets of them."""

import itertools
import random
import unittest

from foldlines.packing import are_apart, best_places, least_prices, saved_together
from samples import same


def all_sets(sites, many):
    """How much, how many and which, for all sets of sites that do not overlap and each save more than 0."""
    for number in range(len(sites) + 1):
        for chosen in itertools.combinations(sites, number):
            pairs = itertools.combinations(chosen, 2)
            apart = all(a[0] != b[0] or abs(a[1] - b[1]) >= many for (a, _), (b, _) in pairs)
            if apart and all(saved > 0 for _, saved in chosen):
                yield (-sum(saved for _, saved in chosen), number, tuple(place for place, _ in chosen))


class PackingTest(unittest.TestCase):
    def check(self, sites, many):
        total, _, places = min(all_sets(sites, many))
        self.assertTrue(same(best_places(sites, many), places))
        self.assertEqual(saved_together(sites, places), -total)
        prices = least_prices(sites, many)
        self.assertEqual(sum(prices.values()), -total)
        self.assertTrue(all(price > 0 for price in prices.values()))
        self.assertEqual(list(prices), sorted(prices))
        for (name, first), saved in sites:
            self.assertGreaterEqual(sum(prices.get((name, first + at), 0) for at in range(many)), saved)
            self.assertTrue(all(other != name or at >= 0 for other, at in prices))
        return places

    def test_none(self):
        self.assertEqual(self.check([], 3), ())
        self.assertEqual(self.check([(("f", 0), 0), (("f", 5), -2)], 3), ())

    def test_the_fewest(self):
        sites = [(("f", 0), 2), (("f", 2), 4), (("f", 4), 2)]
        self.assertEqual(self.check(sites, 3), (("f", 2),))
        self.assertEqual(self.check(sites, 2), (("f", 0), ("f", 2), ("f", 4)))
        self.assertEqual(self.check([(("f", 0), 2), (("f", 2), 3), (("f", 4), 2)], 3), (("f", 0), ("f", 4)))

    def test_the_least(self):
        self.assertEqual(self.check([(("f", 0), 2), (("f", 1), 2)], 2), (("f", 0),))
        self.assertEqual(self.check([(("f", 0), 2), (("f", 1), 3), (("f", 3), 2), (("f", 4), 3)], 3),
                         (("f", 1), ("f", 4)))
        self.assertEqual(self.check([(("f", 0), 2), (("f", 1), 3), (("f", 3), 3), (("f", 4), 2)], 3),
                         (("f", 0), ("f", 3)))

    def test_two_functions(self):
        self.assertEqual(self.check([(("f", 5), 2), (("g", 0), 2), (("g", 1), 3), (("h", 1), 2)], 2),
                         (("f", 5), ("g", 1), ("h", 1)))

    def test_all_kinds_of_sites(self):
        chance = random.Random(1)
        for _ in range(400):
            places = sorted(chance.sample([(name, at) for name in "fg" for at in range(9)], chance.randrange(1, 9)))
            self.check([(place, chance.randrange(-1, 5)) for place in places], chance.randrange(1, 5))

    def test_are_apart(self):
        self.assertIs(are_apart((), 3), True)
        self.assertIs(are_apart((("f", 0), ("f", 3), ("g", 0)), 3), True)
        self.assertIs(are_apart((("f", 0), ("f", 2), ("g", 0)), 3), False)
        self.assertIs(are_apart([("f", 0), ("f", 0)], 1), False)
