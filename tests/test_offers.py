import copy
import itertools
import math
import random
from fractions import Fraction
from unittest import main

from lidprice.errors import NoOffers, NoRule
from lidprice.offers import Offers, near_half
from lidprice.tables import above, share_from, table_of
from tests.helper import LONG, TOP_WORTH, ExactTest, told, wrong_things

COIN = [(0, 1), (8, 1)]


def drawn_lists(source, many, rows=4, most_worth=12, most_weight=5):
    return [[(source.randrange(most_worth + 1), source.randrange(1, most_weight + 1))
             for row in range(source.randrange(1, rows + 1))] for offer in range(many)]


def known_table(rows):
    """The rising worths, each with its share."""
    weights = sum(weight for worth, weight in rows)
    return [(worth, Fraction(sum(own for other, own in rows if other == worth), weights))
            for worth in sorted({worth for worth, weight in rows})]


def all_worths(lists):
    """Each row of worths that may come together, with its share."""
    for together in itertools.product(*[known_table(rows) for rows in lists]):
        yield [worth for worth, part in together], math.prod(part for worth, part in together)


def mean_of(lists, had):
    return sum(part * had(worths) for worths, part in all_worths(lists))


def first_from(worths, order, level):
    return next((worths[offer] for offer in order if worths[offer] >= level), 0)


def least_from(worths, level):
    return min((worth for worth in worths if worth >= level), default=0)


def by_rule(lists, rule, worths):
    for rows, truths, worth in zip(lists, rule, worths):
        places = [own for own, part in known_table(rows)]
        if truths[places.index(worth)]:
            return worth
    return 0


def drawn_rule(source, lists, truth=0.5):
    return [[source.random() < truth for row in known_table(rows)] for rows in lists]


def rule_of(lists, ask):
    return [[ask(offer, worth) for worth, part in known_table(rows)] for offer, rows in enumerate(lists)]


def drawn_levels(source, lists):
    worths = sorted({worth for rows in lists for worth, weight in rows})
    levels = [Fraction(worth) for worth in worths]
    levels += [worth + Fraction(1, 3) for worth in worths] + [worth - Fraction(1, 7) for worth in worths]
    return source.sample(levels, min(4, len(levels))) + [Fraction(worths[0]) - 5, Fraction(worths[-1]) + 5, Fraction(0)]


class OffersTest(ExactTest):
    def drawn(self, seed, many_times, most=4):
        source = random.Random(seed)
        for many in list(range(1, most + 1)) * many_times:
            yield source, drawn_lists(source, many)


class Tables(OffersTest):
    def test_written_out(self):
        offers = Offers([[(4, 2), (0, 2), (4, 4)], [(5, 7)]])
        self.assertEqual(offers.tables(), [[((0, 1), 1), ((4, 1), 3)], [((5, 1), 1)]])
        self.assertEqual(offers.top_mean(), (5, 1))
        self.assertEqual(offers.half(), (5, 2))

    def test_their_order(self):
        lists = [[(worth, 1)] for worth in (5, 3, 9, 3, 0, 1, 2, 8)]
        self.assertEqual(Offers(lists).tables(), [table_of(rows) for rows in lists])

    def test_drawn_offers(self):
        for source, lists in self.drawn(101, 15):
            offers = Offers(lists)
            self.assertEqual(offers.tables(), [table_of(rows) for rows in lists])
            self.assert_fraction(offers.top_mean(), mean_of(lists, max))
            self.assert_fraction(offers.half(), mean_of(lists, max) / 2)

    def test_the_most_offers_and_rows(self):
        source = random.Random(102)
        lists = [[(source.randrange(TOP_WORTH + 1), source.randrange(1, 1001)) for row in range(8)] for one in range(8)]
        offers = Offers(lists)
        worths = sorted({worth for rows in lists for worth, weight in rows})
        wanted = Fraction(0)
        reached = Fraction(0)
        for worth in worths:
            up_to = math.prod(sum(part for own, part in known_table(rows) if own <= worth) for rows in lists)
            wanted += worth * (up_to - reached)
            reached = up_to
        self.assert_fraction(offers.top_mean(), wanted)
        self.assert_fraction(offers.half(), wanted / 2)

    def test_nought_alone(self):
        offers = Offers([[(0, 1)]])
        self.assertEqual((offers.top_mean(), offers.half()), ((0, 1), (0, 1)))
        self.assertEqual(offers.first_taken([0], (0, 1)), (0, 1))
        self.assertEqual(offers.half_paper(), ((0, 1), (0, 1), [((0, 1), (1, 1))], (0, 1)))
        self.assertEqual(offers.worths_on(), [(0, 1), (0, 1)])


class FirstTaken(OffersTest):
    def test_written_out(self):
        offers = Offers([COIN, [(3, 1)]])
        self.assertEqual(offers.first_taken([0, 1], (3, 1)), (11, 2))
        self.assertEqual(offers.first_taken([1, 0], (3, 1)), (3, 1))
        self.assertEqual(offers.first_taken([1, 0], (7, 2)), (4, 1))
        self.assertEqual(offers.first_taken([0, 1], (8, 1)), (4, 1))
        self.assertEqual(offers.first_taken([0, 1], (81, 10)), (0, 1))
        self.assertEqual(offers.first_taken([0, 1], (0, 1)), (4, 1))
        self.assertEqual(offers.first_taken([1, 0], (-7, 2)), (3, 1))

    def test_in_all_orders(self):
        for source, lists in self.drawn(103, 8):
            offers = Offers(lists)
            for level in drawn_levels(source, lists):
                for order in itertools.permutations(range(len(lists))):
                    wanted = mean_of(lists, lambda worths: first_from(worths, order, level))
                    self.assert_fraction(offers.first_taken(list(order), told(level)), wanted)

    def test_levels_of_many_figures(self):
        offers = Offers([COIN, [(3, 1)]])
        for level in ((1, LONG), (LONG, LONG - 1), (LONG, LONG // 4)):
            wanted = mean_of([COIN, [(3, 1)]], lambda worths: first_from(worths, [0, 1], Fraction(*level)))
            self.assert_fraction(offers.first_taken([0, 1], told(Fraction(*level))), wanted)
        self.assertEqual(offers.first_taken([0, 1], (-LONG, 1)), (4, 1))
        self.assertEqual(offers.first_taken([0, 1], (LONG, 1)), (0, 1))

    def test_eight_offers(self):
        lists = [[(0, 1), (2 ** place, 1)] for place in range(8)]
        offers = Offers(lists)
        # Each is taken where those ahead of it are nought, and half of the times it is not nought itself.
        rising = sum(Fraction(2 ** place, 2 ** (place + 1)) for place in range(8))
        self.assert_fraction(offers.first_taken(list(range(8)), (1, 1)), rising)
        falling = sum(Fraction(2 ** place, 2 ** (8 - place)) for place in range(8))
        self.assert_fraction(offers.first_taken(list(range(7, -1, -1)), (1, 1)), falling)


class LeastTaken(OffersTest):
    def test_written_out(self):
        offers = Offers([COIN, [(3, 1)]])
        self.assertEqual(offers.least_taken((3, 1)), (3, 1))
        self.assertEqual(offers.least_taken((4, 1)), (4, 1))
        self.assertEqual(offers.least_taken((0, 1)), (3, 2))
        self.assertEqual(offers.least_taken((-1, 1)), (3, 2))
        self.assertEqual(offers.least_taken((9, 1)), (0, 1))

    def test_drawn_offers(self):
        for source, lists in self.drawn(104, 15):
            offers = Offers(lists)
            for level in drawn_levels(source, lists):
                wanted = mean_of(lists, lambda worths: least_from(worths, level))
                self.assert_fraction(offers.least_taken(told(level)), wanted)

    def test_in_no_order_less_is_had(self):
        for source, lists in self.drawn(105, 8):
            offers = Offers(lists)
            for level in drawn_levels(source, lists):
                least = Fraction(*offers.least_taken(told(level)))
                for order in itertools.permutations(range(len(lists))):
                    self.assertGreaterEqual(Fraction(*offers.first_taken(list(order), told(level))), least)

    def test_the_most_offers_and_rows(self):
        source = random.Random(106)
        lists = [[(source.randrange(TOP_WORTH + 1), source.randrange(1, 1001)) for row in range(8)] for one in range(8)]
        offers = Offers(lists)
        level = offers.half()
        least = Fraction(*offers.least_taken(level))
        for one in range(10):
            order = source.sample(range(8), 8)
            self.assertGreaterEqual(Fraction(*offers.first_taken(order, level)), least)
        worths = sorted({worth for rows in lists for worth, weight in rows if worth >= Fraction(*level)})
        wanted = Fraction(0)
        ahead = Fraction(1)
        for worth in worths:
            none = math.prod(sum(part for own, part in known_table(rows) if not Fraction(*level) <= own <= worth)
                             for rows in lists)
            wanted += worth * (ahead - none)
            ahead = none
        self.assertEqual(least, wanted)


class HalfPaper(OffersTest):
    def assert_paper(self, lists):
        offers = Offers(lists)
        paper = offers.half_paper()
        self.assertIs(type(paper), tuple)
        level, none, rows, floor = paper
        self.assertEqual(level, offers.half())
        half = Fraction(*level)
        self.assert_fraction(level, half)
        tables = [known_table(own) for own in lists]
        below = [sum(part for worth, part in table if worth < half) for table in tables]
        self.assert_fraction(none, math.prod(below))
        self.assertIs(type(rows), list)
        self.assertEqual(len(rows), len(lists))
        wanted = half * (1 - math.prod(below))
        for offer, row in enumerate(rows):
            self.assertEqual((type(row), len(row)), (tuple, 2))
            higher = sum(part * max(worth - half, 0) for worth, part in tables[offer])
            alone = math.prod(below[:offer] + below[offer + 1:])
            self.assert_fraction(row[0], higher)
            self.assert_fraction(row[1], alone)
            wanted += higher * alone
        self.assert_fraction(floor, wanted)
        return offers, half, wanted

    def assert_shows_it(self, lists, orders):
        offers, half, floor = self.assert_paper(lists)
        self.assertGreaterEqual(floor, half)
        paper = offers.half_paper()
        self.assertGreaterEqual(sum(Fraction(*row[0]) for row in paper[2]), half)
        for row in paper[2]:
            self.assertGreaterEqual(Fraction(*row[1]), Fraction(*paper[1]))
        self.assertGreaterEqual(Fraction(*offers.least_taken(paper[0])), floor)
        for order in orders:
            self.assertGreaterEqual(Fraction(*offers.first_taken(list(order), paper[0])), floor)

    def test_written_out(self):
        offers = Offers([COIN, [(3, 1)]])
        self.assertEqual(offers.half(), (11, 4))
        self.assertEqual(offers.half_paper(), ((11, 4), (0, 1), [((21, 8), (0, 1)), ((1, 4), (1, 2))], (23, 8)))
        self.assertEqual(Offers([[(5, 1)]]).half_paper(), ((5, 2), (0, 1), [((5, 2), (1, 1))], (5, 1)))

    def test_drawn_offers(self):
        for source, lists in self.drawn(107, 12):
            self.assert_shows_it(lists, itertools.permutations(range(len(lists))))

    def test_the_most_offers_and_rows(self):
        source = random.Random(108)
        lists = [[(source.randrange(TOP_WORTH + 1), source.randrange(1, 1001)) for row in range(8)] for one in range(8)]
        self.assert_shows_it(lists, [source.sample(range(8), 8) for one in range(5)])

    def test_tables_go_with_the_paper(self):
        offers = Offers([COIN, [(3, 1)]])
        level = offers.half()
        rows = [above(table, level) for table in offers.tables()]
        self.assertEqual([row[0] for row in offers.half_paper()[2]], rows)
        self.assertEqual([share_from(table, level) for table in offers.tables()], [(1, 2), (1, 1)])

    def test_a_half_that_is_a_worth(self):
        self.assertEqual(Offers([[(2, 1)], [(4, 1)]]).half_paper(),
                         ((2, 1), (0, 1), [((0, 1), (0, 1)), ((2, 1), (0, 1))], (2, 1)))
        self.assert_shows_it([[(2, 1)], [(4, 1)]], [(0, 1), (1, 0)])

    def test_many_alike(self):
        for many in range(1, 9):
            self.assert_shows_it([[(0, 9), (1, 1)]] * many, [range(many)])


class WorthsOn(OffersTest):
    def test_written_out(self):
        self.assertEqual(Offers([COIN, [(3, 1)]]).worths_on(), [(11, 2), (3, 1), (0, 1)])
        self.assertEqual(Offers([[(3, 1)], COIN]).worths_on(), [(4, 1), (4, 1), (0, 1)])
        self.assertEqual(Offers([[(5, 1)], COIN, COIN]).worths_on(), [(6, 1), (6, 1), (4, 1), (0, 1)])

    def test_drawn_offers(self):
        for source, lists in self.drawn(109, 10, 8):
            found = Offers(lists).worths_on()
            self.assertIs(type(found), list)
            self.assertEqual(len(found), len(lists) + 1)
            on = Fraction(0)
            self.assert_fraction(found[-1], 0)
            for rows, worth_on in zip(reversed(lists), reversed(found[:-1])):
                on = sum(part * max(worth, on) for worth, part in known_table(rows))
                self.assert_fraction(worth_on, on)

    def test_no_rule_has_more(self):
        source = random.Random(110)
        for many in (1, 2, 3, 3, 3):
            lists = drawn_lists(source, many, 3)
            offers = Offers(lists)
            sizes = [len(table) for table in offers.tables()]
            choices = [list(itertools.product((True, False), repeat=size)) for size in sizes]
            means = [offers.taken_by([list(truths) for truths in rule]) for rule in itertools.product(*choices)]
            self.assertEqual(max(Fraction(*mean) for mean in means), Fraction(*offers.worths_on()[0]))


class Rules(OffersTest):
    def test_written_out(self):
        offers = Offers([COIN, [(3, 1)]])
        self.assertEqual(offers.taken_by([[False, True], [True]]), (11, 2))
        self.assertEqual(offers.taken_by([[True, True], [True]]), (4, 1))
        self.assertEqual(offers.taken_by([[True, False], [True]]), (3, 2))
        self.assertEqual(offers.taken_by([[False, False], [False]]), (0, 1))
        self.assertEqual(offers.rule_losses([[False, True], [True]]), [((1, 1), (0, 1)), ((1, 2), (0, 1))])
        self.assertEqual(offers.rule_losses([[True, True], [True]]), [((1, 1), (3, 2)), ((0, 1), (0, 1))])
        self.assertEqual(offers.rule_losses([[True, True], [False]]), [((1, 1), (3, 2)), ((0, 1), (3, 1))])
        self.assertEqual(offers.rule_losses([[False, False], [False]]), [((1, 1), (5, 2)), ((1, 1), (3, 1))])

    def test_a_truth_for_each_row_of_the_table(self):
        offers = Offers([[(4, 1), (0, 1), (4, 2)]])
        self.assertEqual(offers.taken_by([[False, True]]), (3, 1))
        self.assertEqual(offers.taken_by([[True, False]]), (0, 1))
        self.assert_refused(NoRule, offers.taken_by, [[True, False, True]])

    def assert_rule(self, lists, rule):
        offers = Offers(lists)
        self.assert_fraction(offers.taken_by(rule), mean_of(lists, lambda worths: by_rule(lists, rule, worths)))
        worths_on = [Fraction(*worth) for worth in offers.worths_on()]
        found = offers.rule_losses(rule)
        self.assertIs(type(found), list)
        self.assertEqual(len(found), len(lists))
        reached = Fraction(1)
        for offer, row in enumerate(found):
            self.assertEqual((type(row), len(row)), (tuple, 2))
            table = known_table(lists[offer])
            later = worths_on[offer + 1]
            loss = sum(part * (max(worth, later) - (worth if truth else later))
                       for (worth, part), truth in zip(table, rule[offer]))
            self.assert_fraction(row[0], reached)
            self.assert_fraction(row[1], loss)
            self.assertGreaterEqual(loss, 0)
            reached *= sum(part for (worth, part), truth in zip(table, rule[offer]) if not truth)
        lack = sum(Fraction(*row[0]) * Fraction(*row[1]) for row in found)
        self.assertEqual(lack, worths_on[0] - Fraction(*offers.taken_by(rule)))

    def test_drawn_rules(self):
        for source, lists in self.drawn(111, 20):
            self.assert_rule(lists, drawn_rule(source, lists, source.choice((0.2, 0.5, 0.8))))

    def test_all_and_none(self):
        for source, lists in self.drawn(112, 5):
            self.assert_rule(lists, rule_of(lists, lambda offer, worth: True))
            self.assert_rule(lists, rule_of(lists, lambda offer, worth: False))
            self.assertEqual(Offers(lists).taken_by(rule_of(lists, lambda offer, worth: False)), (0, 1))

    def test_the_rule_by_worths_on_loses_nothing(self):
        for source, lists in self.drawn(113, 10, 8):
            offers = Offers(lists)
            on = [Fraction(*worth) for worth in offers.worths_on()]
            for rule in (rule_of(lists, lambda offer, worth: worth >= on[offer + 1]),
                         rule_of(lists, lambda offer, worth: worth > on[offer + 1])):
                self.assertEqual(offers.taken_by(rule), offers.worths_on()[0])
                self.assertEqual([row[1] for row in offers.rule_losses(rule)], [(0, 1)] * len(lists))

    def test_a_level_is_a_rule(self):
        for source, lists in self.drawn(114, 10):
            offers = Offers(lists)
            for level in drawn_levels(source, lists):
                rule = rule_of(lists, lambda offer, worth: worth >= level)
                self.assertEqual(offers.taken_by(rule), offers.first_taken(list(range(len(lists))), told(level)))

    def test_the_most_offers_and_rows(self):
        source = random.Random(115)
        lists = [[(source.randrange(TOP_WORTH + 1), source.randrange(1, 1001)) for row in range(8)] for one in range(8)]
        offers = Offers(lists)
        rule = drawn_rule(source, lists, 0.4)
        lack = sum(Fraction(*reached) * Fraction(*loss) for reached, loss in offers.rule_losses(rule))
        self.assertEqual(lack, Fraction(*offers.worths_on()[0]) - Fraction(*offers.taken_by(rule)))


class NearHalf(OffersTest):
    def test_written_out(self):
        self.assertEqual(near_half(2), [[(1, 1)], [(0, 1), (2, 1)]])
        self.assertEqual(near_half(1000), [[(1, 1)], [(0, 999), (1000, 1)]])
        self.assertEqual(near_half(10), [[(1, 1)], [(0, 9), (10, 1)]])

    def test_what_it_is_for(self):
        for many in (2, 3, 4, 10, 77, 999, 1000):
            found = near_half(many)
            self.assertIs(type(found), list)
            self.assertEqual([type(rows) for rows in found], [list, list])
            offers = Offers(found)
            self.assert_fraction(offers.top_mean(), Fraction(2 * many - 1, many))
            self.assertEqual(offers.worths_on()[0], (1, 1))

    def test_a_new_list_each_time(self):
        near_half(5)[1].clear()
        near_half(5).clear()
        self.assertEqual(near_half(5), [[(1, 1)], [(0, 4), (5, 1)]])

    def test_another_many(self):
        for thing in wrong_things() + [0, 1, 1001, 1002, -2, "2"]:
            with self.subTest(type(thing).__name__):
                self.assert_refused(NoOffers, near_half, thing)


def everything(offers):
    rule = [[True] * len(table) for table in offers.tables()]
    order = list(range(len(rule)))
    return copy.deepcopy((
        offers.tables(), offers.top_mean(), offers.half(), offers.first_taken(order, (3, 1)),
        offers.least_taken((3, 1)),
        offers.half_paper(), offers.worths_on(), offers.taken_by(rule), offers.rule_losses(rule)))


class Own(OffersTest):
    def test_lists_handed_in_and_changed_behind(self):
        lists = [[(0, 1), (8, 1)], [(3, 1)]]
        given = copy.deepcopy(lists)
        offers = Offers(lists)
        before = everything(offers)
        self.assertEqual(lists, given)
        lists[0][0] = (5, 5)
        lists[1].append((9, 9))
        lists.append([(7, 1)])
        self.assertEqual(everything(offers), before)
        lists.clear()
        self.assertEqual(everything(offers), before)

    def test_orders_and_rules_stay(self):
        offers = Offers([COIN, [(3, 1)]])
        order = [1, 0]
        rule = [[False, True], [True]]
        wanted = (offers.first_taken(order, (3, 1)), offers.taken_by(rule), offers.rule_losses(rule))
        self.assertEqual((offers.first_taken(order, (3, 1)), offers.taken_by(rule), offers.rule_losses(rule)), wanted)
        self.assertEqual((order, rule), ([1, 0], [[False, True], [True]]))
        rule[0][0] = True
        order.reverse()
        self.assertEqual(offers.taken_by([[False, True], [True]]), wanted[1])

    def test_lists_told_may_be_changed(self):
        offers = Offers([COIN, [(3, 1)]])
        before = everything(offers)
        for ask in (offers.tables, offers.worths_on, lambda: offers.half_paper()[2],
                    lambda: offers.rule_losses([[True, False], [False]]), lambda: offers.tables()[0]):
            found = ask()
            found[0] = None
            self.assertEqual(everything(offers), before)
            found.clear()
            self.assertEqual(everything(offers), before)

    def test_what_is_refused_changes_nothing(self):
        offers = Offers([COIN, [(3, 1)]])
        before = everything(offers)
        self.assert_refused(NoRule, offers.first_taken, [0], (1, 1))
        self.assert_refused(NoRule, offers.taken_by, [[True]])
        self.assert_refused(NoRule, offers.rule_losses, None)
        self.assertEqual(everything(offers), before)


class NoOffersAtAll(OffersTest):
    def test_things_of_all_kinds(self):
        for thing in wrong_things() + [0, 1, "offers", ([(1, 1)],), {0: [(1, 1)]}]:
            with self.subTest(type(thing).__name__):
                self.assert_refused(NoOffers, Offers, thing)
                self.assert_refused(NoOffers, Offers, [thing])
                self.assert_refused(NoOffers, Offers, [[(1, 1)], thing])
                if thing not in ((0, 1), (1, 1)):
                    self.assert_refused(NoOffers, Offers, [[thing]])
                    self.assert_refused(NoOffers, Offers, [[(1, 1)], [(1, 1), thing]])
        self.assert_refused(NoOffers, Offers, [(1, 1)])

    def test_how_many(self):
        for many in range(1, 9):
            self.assertEqual(len(Offers([[(1, 1)]] * many).tables()), many)
            self.assertEqual(Offers([[(1, 1)] * many]).tables(), [[((1, 1), 1)]])
        for many in (0, 9, 10):
            self.assert_refused(NoOffers, Offers, [[(1, 1)]] * many)
            self.assert_refused(NoOffers, Offers, [[(1, 1)] * many])
            self.assert_refused(NoOffers, Offers, [[(1, 1)], [(1, 1)] * many])

    def test_numbers_at_the_bounds(self):
        for row in ((0, 1), (TOP_WORTH, 1), (0, 1000), (TOP_WORTH, 1000)):
            self.assertEqual(Offers([[row]]).tables(), [[((row[0], 1), 1)]])
        for row in ((-1, 1), (TOP_WORTH + 1, 1), (0, 0), (0, -1), (0, 1001), (True, 1), (1, True), (None, 1), (1, "1"),
                    ((1, 1), 1), (1, (1, 1)), (1,), (1, 1, 1), [1, 1], "11"):
            self.assert_refused(NoOffers, Offers, [[row]])
            self.assert_refused(NoOffers, Offers, [[(1, 1)], [(2, 2), row]])

    def test_things_in_a_row(self):
        for thing in wrong_things():
            with self.subTest(type(thing).__name__):
                self.assert_refused(NoOffers, Offers, [[(thing, 1)]])
                self.assert_refused(NoOffers, Offers, [[(1, 1), (1, thing)]])


class NoRules(OffersTest):
    def test_no_order(self):
        offers = Offers([COIN, [(3, 1)], [(1, 2)]])
        self.assertEqual(offers.first_taken([2, 0, 1], (3, 1)), offers.first_taken([0, 2, 1], (3, 1)))
        wrong = [[0, 1], [0, 1, 2, 3], [0, 1, 1], [0, 0, 0], [1, 2, 3], [0, 1, -1], [0, True, 2], [False, 1, 2],
                 (0, 1, 2), {0: 0, 1: 1, 2: 2}, "012", ["0", "1", "2"], [[0], [1], [2]], [0, 1, 2, 2], 3,
                 [0, 1, None], [0, 1, (2,)]]
        for thing in wrong_things() + wrong:
            with self.subTest(type(thing).__name__):
                self.assert_refused(NoRule, offers.first_taken, thing, (3, 1))
                self.assert_refused(NoRule, offers.first_taken, [0, 1, thing], (3, 1))

    def test_orders_by_how_many_offers(self):
        for many in range(1, 9):
            offers = Offers([[(1, 1)]] * many)
            self.assertEqual(offers.first_taken(list(range(many)), (1, 1)), (1, 1))
            self.assert_refused(NoRule, offers.first_taken, list(range(many - 1)), (1, 1))
            self.assert_refused(NoRule, offers.first_taken, list(range(many + 1)), (1, 1))
            self.assert_refused(NoRule, offers.first_taken, list(range(1, many + 1)), (1, 1))

    def test_no_rule(self):
        offers = Offers([COIN, [(3, 1)]])
        wrong = [[[True, True]], [[True, True], [True], [True]], [[True], [True]], [[True, True, True], [True]],
                 [[True, True], []], [[True, True], [True, True]], [[1, 0], [1]], [[True, 0], [True]],
                 [[True, True], [1]], [[True, None], [True]], [["True", True], [True]], [(True, True), (True,)],
                 ([True, True], [True]), {0: [True, True], 1: [True]}, [[True, True], True],
                 [[[True], True], [True]], [{0: True, 1: True}, [True]], 2, [True, False, True]]
        for thing in wrong_things() + wrong:
            with self.subTest(type(thing).__name__):
                for ask in (offers.taken_by, offers.rule_losses):
                    self.assert_refused(NoRule, ask, thing)
                    self.assert_refused(NoRule, ask, [[True, True], thing])
                    self.assert_refused(NoRule, ask, [thing, [True]])

    def test_things_in_the_place_of_a_truth(self):
        offers = Offers([COIN, [(3, 1)]])
        for thing in wrong_things() + [0, 1, 2]:
            if not isinstance(thing, bool):
                for ask in (offers.taken_by, offers.rule_losses):
                    self.assert_refused(NoRule, ask, [[True, thing], [True]])
                    self.assert_refused(NoRule, ask, [[True, False], [thing]])


if __name__ == "__main__":
    main()
