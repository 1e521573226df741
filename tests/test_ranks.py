import functools
import itertools
import math
import random
from fractions import Fraction
from unittest import main

from lidprice.errors import NoRanks
from lidprice.ranks import best_gone, first_better, rank_losses, rank_worths, share_by
from tests.helper import ExactTest, wrong_things

SMALL = range(1, 7)


def is_better(order, place):
    """Whether the one at a place, counted from 1, is better than all ahead of it."""
    return all(other < order[place - 1] for other in order[:place - 1])


def place_taken(order, places):
    return next((place for place in places if is_better(order, place)), None)


@functools.cache
def counted(many, places):
    """The share of all orders in which a rule by places takes the best of all."""
    orders = list(itertools.permutations(range(many)))
    taken = [place_taken(order, places) for order in orders]
    won = sum(place is not None and order[place - 1] == many - 1 for order, place in zip(orders, taken))
    return Fraction(won, len(orders))


@functools.cache
def counted_reached(many, places, last):
    """The share of all orders in which nothing was taken ahead of a place."""
    orders = list(itertools.permutations(range(many)))
    ahead = tuple(place for place in places if place < last)
    return Fraction(sum(place_taken(order, ahead) is None for order in orders), len(orders))


def all_places(many):
    for size in range(many + 1):
        yield from itertools.combinations(range(1, many + 1), size)


def known_worths(many):
    found = [Fraction(0)]
    for place in range(many, 0, -1):
        found.insert(0, Fraction(1, place) * max(Fraction(place, many), found[0]) + found[0] * (1 - Fraction(1, place)))
    return found


def drawn_places(source, many):
    share = source.random()
    return [place for place in range(1, many + 1) if source.random() < share]


class FirstBetter(ExactTest):
    def test_written_out(self):
        self.assertEqual(first_better(1, 0), (1, 1))
        self.assertEqual([first_better(2, gone) for gone in (0, 1)], [(1, 2), (1, 2)])
        self.assertEqual([first_better(3, gone) for gone in (0, 1, 2)], [(1, 3), (1, 2), (1, 3)])
        self.assertEqual([first_better(4, gone) for gone in range(4)], [(1, 4), (11, 24), (5, 12), (1, 4)])

    def test_against_a_count_over_all_orders(self):
        for many in SMALL:
            for gone in range(many):
                self.assert_fraction(first_better(many, gone), counted(many, tuple(range(gone + 1, many + 1))))

    def test_great_many(self):
        for many in (59, 60):
            self.assert_fraction(first_better(many, 0), Fraction(1, many))
            self.assert_fraction(first_better(many, many - 1), Fraction(1, many))
            for gone in range(1, many):
                wanted = Fraction(gone, many) * sum(Fraction(1, place) for place in range(gone, many))
                self.assert_fraction(first_better(many, gone), wanted)

    def test_it_is_a_rule_by_places(self):
        for many in (7, 20, 60):
            for gone in range(many):
                self.assertEqual(first_better(many, gone), share_by(many, list(range(gone + 1, many + 1))))


class BestGone(ExactTest):
    def test_written_out(self):
        self.assertEqual([best_gone(many) for many in range(1, 11)], [0, 0, 1, 1, 2, 2, 2, 3, 3, 3])

    def test_the_least_of_equal_ones(self):
        self.assertEqual(first_better(2, 0), first_better(2, 1))
        self.assert_whole(best_gone(2), 0)

    def test_every_many(self):
        for many in range(1, 61):
            shares = [Fraction(*first_better(many, gone)) for gone in range(many)]
            self.assert_whole(best_gone(many), shares.index(max(shares)))

    def test_it_has_the_first_rank_worth(self):
        for many in range(1, 61):
            self.assertEqual(first_better(many, best_gone(many)), rank_worths(many)[0])


class RankWorths(ExactTest):
    def test_written_out(self):
        self.assertEqual(rank_worths(1), [(1, 1), (0, 1)])
        self.assertEqual(rank_worths(2), [(1, 2), (1, 2), (0, 1)])
        self.assertEqual(rank_worths(3), [(1, 2), (1, 2), (1, 3), (0, 1)])
        self.assertEqual(rank_worths(4), [(11, 24), (11, 24), (5, 12), (1, 4), (0, 1)])

    def test_every_many(self):
        for many in range(1, 61):
            found = rank_worths(many)
            self.assertIs(type(found), list)
            self.assertEqual(len(found), many + 1)
            for one, wanted in zip(found, known_worths(many)):
                self.assert_fraction(one, wanted)

    def test_no_rule_has_more(self):
        for many in SMALL:
            shares = [counted(many, places) for places in all_places(many)]
            self.assert_fraction(rank_worths(many)[0], max(shares))

    def test_from_each_place_on(self):
        for many in (1, 2, 3, 4, 5):
            for place in range(1, many + 1):
                later = [places for places in all_places(many) if all(one >= place for one in places)]
                self.assert_fraction(rank_worths(many)[place - 1], max(counted(many, places) for places in later))


class ShareBy(ExactTest):
    def test_written_out(self):
        self.assertEqual(share_by(3, []), (0, 1))
        self.assertEqual(share_by(3, [1]), (1, 3))
        self.assertEqual(share_by(3, [2, 3]), (1, 2))
        self.assertEqual(share_by(3, [1, 2, 3]), (1, 3))
        self.assertEqual(share_by(3, [3]), (1, 3))
        self.assertEqual(share_by(1, []), (0, 1))
        self.assertEqual(share_by(1, [1]), (1, 1))

    def test_against_a_count_over_all_orders(self):
        for many in SMALL:
            for places in all_places(many):
                self.assert_fraction(share_by(many, list(places)), counted(many, places))

    def test_great_many(self):
        source = random.Random(121)
        for many in (30, 59, 60, 60, 60):
            places = drawn_places(source, many)
            wanted = sum(Fraction(1, many) * math.prod(1 - Fraction(1, other) for other in places if other < place)
                         for place in places)
            self.assert_fraction(share_by(many, places), wanted)
        for place in range(1, 61):
            self.assertEqual(share_by(60, [place]), (1, 60))
        self.assertEqual(share_by(60, list(range(1, 61))), (1, 60))


class RankLosses(ExactTest):
    def assert_losses(self, many, places):
        worths = known_worths(many)
        found = rank_losses(many, places)
        self.assertIs(type(found), list)
        self.assertEqual(len(found), many)
        reached = Fraction(1)
        for place, row in enumerate(found, 1):
            self.assertEqual((type(row), len(row)), (tuple, 2))
            most = max(Fraction(place, many), worths[place])
            own = Fraction(place, many) if place in places else worths[place]
            self.assert_fraction(row[0], reached)
            self.assert_fraction(row[1], (most - own) / place)
            self.assertGreaterEqual(row[1][0], 0)
            if place in places:
                reached *= 1 - Fraction(1, place)
        lack = sum(Fraction(*row[0]) * Fraction(*row[1]) for row in found)
        self.assertEqual(lack, worths[0] - Fraction(*share_by(many, places)))

    def test_written_out(self):
        self.assertEqual(rank_losses(1, []), [((1, 1), (1, 1))])
        self.assertEqual(rank_losses(1, [1]), [((1, 1), (0, 1))])
        self.assertEqual(rank_losses(3, [2, 3]), [((1, 1), (0, 1)), ((1, 1), (0, 1)), ((1, 2), (0, 1))])
        self.assertEqual(rank_losses(3, [1]), [((1, 1), (1, 6)), ((0, 1), (1, 6)), ((0, 1), (1, 3))])
        self.assertEqual(rank_losses(3, []), [((1, 1), (0, 1)), ((1, 1), (1, 6)), ((1, 1), (1, 3))])

    def test_small_many(self):
        for many in SMALL:
            for places in all_places(many):
                self.assert_losses(many, list(places))

    def test_reached_against_a_count(self):
        for many in (1, 2, 3, 4, 5):
            for places in all_places(many):
                for place, row in enumerate(rank_losses(many, list(places)), 1):
                    self.assert_fraction(row[0], counted_reached(many, places, place))

    def test_great_many(self):
        source = random.Random(122)
        for many in (10, 59, 60, 60, 60):
            self.assert_losses(many, drawn_places(source, many))
        self.assert_losses(60, [])
        self.assert_losses(60, list(range(1, 61)))

    def test_the_best_gone_loses_nothing(self):
        for many in range(1, 61):
            places = list(range(best_gone(many) + 1, many + 1))
            lack = sum(Fraction(*reached) * Fraction(*loss) for reached, loss in rank_losses(many, places))
            self.assertEqual(lack, 0)


class Own(ExactTest):
    def test_lists_told_may_be_changed(self):
        wanted = rank_worths(5)
        found = rank_worths(5)
        found.clear()
        self.assertEqual(rank_worths(5), wanted)
        wanted = rank_losses(5, [2, 4])
        found = rank_losses(5, [2, 4])
        found[0] = None
        self.assertEqual(rank_losses(5, [2, 4]), wanted)

    def test_places_stay(self):
        places = [2, 4]
        wanted = (share_by(5, places), rank_losses(5, places))
        self.assertEqual((share_by(5, places), rank_losses(5, places)), wanted)
        self.assertEqual(places, [2, 4])


class Refusals(ExactTest):
    def test_no_many(self):
        for thing in wrong_things() + [0, 61, 62, -60, "60", 60 * 10 ** 9]:
            with self.subTest(type(thing).__name__):
                for ask in (best_gone, rank_worths):
                    self.assert_refused(NoRanks, ask, thing)
                for gone in (0, 1, None):
                    self.assert_refused(NoRanks, first_better, thing, gone)
                for places in ([], [1], None):
                    self.assert_refused(NoRanks, share_by, thing, places)
                    self.assert_refused(NoRanks, rank_losses, thing, places)

    def test_the_bounds_of_many(self):
        for many in (1, 60):
            self.assertEqual(len(rank_worths(many)), many + 1)
            self.assertEqual(len(rank_losses(many, [])), many)

    def test_no_gone(self):
        for many in (1, 2, 5, 60):
            for thing in wrong_things() + [many, many + 1, -1, "0"]:
                with self.subTest(type(thing).__name__):
                    self.assert_refused(NoRanks, first_better, many, thing)

    def test_no_places(self):
        for many in (1, 2, 5, 60):
            wrong = [[0], [many + 1], [1, many + 1], [0, 1], [1, 1], [-1], [True], (1,), {1: 1}, "1", ["1"], [[1]],
                     [None], 1, 0, [1, None], [(1,)]]
            for thing in wrong_things() + wrong:
                # These two are places; as lists they are equal to [False] and [True], so their words are looked at.
                if repr(thing) in ("[]", "[1]"):
                    continue
                with self.subTest(type(thing).__name__):
                    self.assert_refused(NoRanks, share_by, many, thing)
                    self.assert_refused(NoRanks, rank_losses, many, thing)

    def test_places_that_do_not_rise(self):
        for places in ([2, 1], [1, 3, 2], [1, 2, 2], [3, 3], [4, 3, 2, 1], [1, 2, True], [True, 2]):
            self.assert_refused(NoRanks, share_by, 5, places)
            self.assert_refused(NoRanks, rank_losses, 5, places)
        self.assertEqual(share_by(5, [1, 2, 3]), (1, 5))

    def test_things_among_the_places(self):
        for thing in wrong_things():
            self.assert_refused(NoRanks, share_by, 60, [1, 2, thing])
            self.assert_refused(NoRanks, rank_losses, 60, [thing, 59, 60])


if __name__ == "__main__":
    main()
