import copy
import itertools
import math
import random
import unittest
from fractions import Fraction

from lidprice.errors import NoTable
from lidprice.tables import above, capped, greatest, level_for, mean, mixed, share_from, table_of

TOP_WORTH = 10 ** 9
LONG = 10 ** 200 - 1


def told(fraction):
    return (fraction.numerator, fraction.denominator)


def shares_of(table):
    weights = sum(weight for worth, weight in table)
    return {Fraction(*worth): Fraction(weight, weights) for worth, weight in table}


def gathered(pairs):
    shares = {}
    for worth, part in pairs:
        shares[worth] = shares.get(worth, 0) + part
    return shares


def table_by(shares):
    scale = math.lcm(*[part.denominator for part in shares.values()])
    return [(told(worth), int(shares[worth] * scale)) for worth in sorted(shares)]


def had_above(table, level):
    return sum((part * (worth - level) for worth, part in shares_of(table).items() if worth > level), Fraction(0))


def random_table(source, rows, worth_figures=2, bottom_most=6, weight_most=12):
    most = 10 ** worth_figures
    shares = {}
    while len(shares) < rows:
        worth = Fraction(source.randrange(-most + 1, most), source.randrange(1, bottom_most + 1))
        shares[worth] = source.randrange(1, weight_most + 1)
    weights = sum(shares.values())
    return table_by({worth: Fraction(weight, weights) for worth, weight in shares.items()})


def long_table(seed, rows=100):
    return random_table(random.Random(seed), rows, 200, LONG, LONG)


def small_tables():
    source = random.Random(5)
    tables = [[((0, 1), 1)], [((-7, 2), 1)], [((5, 1), 1)], [((0, 1), 1), ((10, 1), 1)]]
    for rows in range(1, 9):
        tables.extend(random_table(source, rows) for again in range(4))
    return tables


def levels_for(table):
    worths = sorted(shares_of(table))
    between = [(one + other) / 2 for one, other in zip(worths, worths[1:])]
    beyond = [worths[0] - 1, worths[0] - Fraction(1, 7), worths[-1] + Fraction(1, 7), worths[-1] + 1]
    return worths + between + beyond + [Fraction(0), Fraction(-1000), Fraction(-1, 3)]


class TablesTest(unittest.TestCase):
    def assert_fraction(self, found, wanted):
        self.assertIs(type(found), tuple)
        self.assertEqual([type(part) for part in found], [int, int])
        self.assertTrue(found == told(wanted), "another fraction than wanted")

    def assert_form(self, table):
        self.assertIs(type(table), list)
        self.assertTrue(table)
        for row in table:
            self.assertIs(type(row), tuple)
            worth, weight = row
            self.assertIs(type(weight), int)
            self.assertGreaterEqual(weight, 1)
            self.assert_fraction(worth, Fraction(*worth))
        worths = [Fraction(*worth) for worth, weight in table]
        self.assertTrue(all(one < other for one, other in zip(worths, worths[1:])))
        self.assertEqual(math.gcd(*[weight for worth, weight in table]), 1)

    def assert_table(self, found, shares):
        self.assert_form(found)
        self.assertTrue(found == table_by(shares), "another table than wanted")


class Making(TablesTest):
    def test_rows_in_any_order(self):
        wanted = [((0, 1), 3), ((4, 1), 2), ((10, 1), 1)]
        for rows in itertools.permutations([(4, 2), (0, 3), (10, 1)]):
            self.assertEqual(table_of(list(rows)), wanted)

    def test_a_worth_in_several_rows(self):
        self.assertEqual(table_of([(7, 1), (3, 2), (7, 4)]), [((3, 1), 2), ((7, 1), 5)])
        self.assertEqual(table_of([(7, 1), (7, 1), (7, 4)]), [((7, 1), 1)])

    def test_common_divisor(self):
        self.assertEqual(table_of([(1, 6), (2, 4)]), [((1, 1), 3), ((2, 1), 2)])
        self.assertEqual(table_of([(1, 6), (2, 10), (3, 15)]), [((1, 1), 6), ((2, 1), 10), ((3, 1), 15)])
        self.assertEqual(table_of([(1, 2), (1, 1), (2, 6)]), [((1, 1), 1), ((2, 1), 2)])
        self.assertEqual(table_of([(9, 1000)]), [((9, 1), 1)])

    def test_bounds(self):
        self.assertEqual(table_of([(TOP_WORTH, 1), (0, 1000)]), [((0, 1), 1000), ((TOP_WORTH, 1), 1)])
        self.assertEqual(table_of([(0, 1)]), [((0, 1), 1)])
        self.assertEqual(table_of([(TOP_WORTH, 1000)]), [((TOP_WORTH, 1), 1)])

    def test_eight_rows(self):
        rows = [(8 - place, place + 1) for place in range(8)]
        self.assertEqual(table_of(rows), [((worth, 1), 9 - worth) for worth in range(1, 9)])
        self.assertEqual(table_of([(6, 1000)] * 8), [((6, 1), 1)])

    def test_by_shares(self):
        source = random.Random(3)
        for rows in range(1, 9):
            for again in range(20):
                given = [(source.choice([0, 1, 5, TOP_WORTH]), source.randrange(1, 1001)) for row in range(rows)]
                weights = sum(weight for worth, weight in given)
                pairs = [(Fraction(worth), Fraction(weight, weights)) for worth, weight in given]
                self.assert_table(table_of(given), gathered(pairs))


class Refusing(TablesTest):
    def assert_refused(self, rows):
        before = copy.deepcopy(rows)
        with self.assertRaises(NoTable):
            table_of(rows)
        self.assertEqual(rows, before)

    def test_no_list(self):
        for rows in (None, True, False, 0, 1, -1, 10 ** 100, "", "rows", (), {}, {1: 2}, {(1, 1): True}, (1, 1),
                     ((1, 1),), ((1, 1), (2, 1)), NoTable()):
            with self.subTest(repr(rows)):
                with self.assertRaises(NoTable):
                    table_of(rows)

    def test_too_few_and_too_many_rows(self):
        self.assert_refused([])
        self.assert_refused([(place, 1) for place in range(9)])
        self.assert_refused([(1, 1)] * 9)
        self.assert_refused([(1, 1)] * 100)

    def test_no_tuple_of_two(self):
        for row in (None, True, 1, "", "ab", (), (1,), (1, 1, 1), [], [1, 1], {}, {1: 1, 2: 2}, ((1, 1),),
                    ((1, 1), 1), (1, (1, 1))):
            with self.subTest(repr(row)):
                self.assert_refused([row])
                self.assert_refused([(1, 1), row])
                self.assert_refused([row, (1, 1)])

    def test_worths(self):
        for worth in (-1, TOP_WORTH + 1, -TOP_WORTH, 10 ** 99, True, False, None, "", "1", [], [1], (), (1,), (1, 1),
                      {}, {1: 1}):
            with self.subTest(repr(worth)):
                self.assert_refused([(worth, 1)])
                self.assert_refused([(1, 1), (2, 2), (worth, 1)])

    def test_weights(self):
        for weight in (0, -1, 1001, -1000, 10 ** 99, True, False, None, "", "1", [], [1], (), (1,), (1, 1), {},
                       {1: 1}):
            with self.subTest(repr(weight)):
                self.assert_refused([(1, weight)])
                self.assert_refused([(1, 1), (2, 2), (1, weight)])

    def test_deep_things(self):
        deep = []
        wide = ()
        for level in range(49):
            deep = [deep]
            wide = (wide, {"a": wide} if level == 0 else None)
        for thing in (deep, wide):
            self.assert_refused(thing)
            self.assert_refused([thing])
            self.assert_refused([(thing, 1)])
            self.assert_refused([(1, thing)])


class Telling(TablesTest):
    table = [((0, 1), 1), ((4, 1), 2), ((10, 1), 1)]

    def test_written_out(self):
        self.assertEqual(mean(self.table), (9, 2))
        self.assertEqual(above(self.table, (4, 1)), (3, 2))
        self.assertEqual(above(self.table, (7, 2)), (15, 8))
        self.assertEqual(share_from(self.table, (4, 1)), (3, 4))
        self.assertEqual(share_from(self.table, (9, 2)), (1, 4))

    def test_below_all_and_above_all(self):
        self.assertEqual(above(self.table, (-3, 2)), (6, 1))
        self.assertEqual(above(self.table, (0, 1)), (9, 2))
        self.assertEqual(above(self.table, (10, 1)), (0, 1))
        self.assertEqual(above(self.table, (21, 2)), (0, 1))
        self.assertEqual(share_from(self.table, (-3, 2)), (1, 1))
        self.assertEqual(share_from(self.table, (0, 1)), (1, 1))
        self.assertEqual(share_from(self.table, (10, 1)), (1, 4))
        self.assertEqual(share_from(self.table, (21, 2)), (0, 1))

    def test_worths_below_nought(self):
        table = [((-7, 2), 3), ((-1, 3), 1)]
        self.assertEqual(mean(table), (-65, 24))
        self.assertEqual(above(table, (-2, 1)), (5, 12))
        self.assertEqual(share_from(table, (-7, 2)), (1, 1))
        self.assertEqual(share_from(table, (-2, 1)), (1, 4))
        self.assertEqual(share_from(table, (0, 1)), (0, 1))

    def assert_told(self, table, levels):
        shares = shares_of(table)
        self.assert_fraction(mean(table), sum(worth * part for worth, part in shares.items()))
        for level in levels:
            reached = sum((part for worth, part in shares.items() if worth >= level), Fraction(0))
            self.assert_fraction(above(table, told(level)), had_above(table, level))
            self.assert_fraction(share_from(table, told(level)), reached)

    def test_small_ones(self):
        for table in small_tables():
            self.assert_told(table, levels_for(table))

    def test_long_ones(self):
        table = long_table(1)
        self.assert_told(table, [Fraction(*table[40][0]), Fraction(-LONG, LONG - 1), Fraction(10 ** 199)])


class Capping(TablesTest):
    table = [((0, 1), 1), ((4, 1), 2), ((10, 1), 1)]

    def test_written_out(self):
        self.assertEqual(capped(self.table, (9, 2)), [((0, 1), 1), ((4, 1), 2), ((9, 2), 1)])
        self.assertEqual(capped(self.table, (7, 2)), [((0, 1), 1), ((7, 2), 3)])

    def test_equal_ones_stand_in_one_row(self):
        self.assertEqual(capped(self.table, (4, 1)), [((0, 1), 1), ((4, 1), 3)])
        self.assertEqual(capped(self.table, (0, 1)), [((0, 1), 1)])
        self.assertEqual(capped(self.table, (-5, 3)), [((-5, 3), 1)])

    def test_common_divisor_that_comes(self):
        table = [((0, 1), 2), ((4, 1), 1), ((10, 1), 1)]
        self.assertEqual(capped(table, (4, 1)), [((0, 1), 1), ((4, 1), 1)])

    def test_at_and_above_the_greatest(self):
        self.assertEqual(capped(self.table, (10, 1)), self.table)
        self.assertEqual(capped(self.table, (11, 1)), self.table)

    def assert_capped(self, table, level):
        pairs = [(min(worth, level), part) for worth, part in shares_of(table).items()]
        self.assert_table(capped(table, told(level)), gathered(pairs))

    def test_small_ones(self):
        for table in small_tables():
            for level in levels_for(table):
                self.assert_capped(table, level)

    def test_long_ones(self):
        table = long_table(2)
        for level in (Fraction(*table[60][0]), Fraction(LONG, LONG - 1), Fraction(-LONG)):
            self.assert_capped(table, level)


class Mixing(TablesTest):
    def test_written_out(self):
        one = [((0, 1), 1), ((3, 1), 2)]
        other = [((1, 2), 1)]
        self.assertEqual(mixed([(1, one), (1, other)]), [((0, 1), 1), ((1, 2), 3), ((3, 1), 2)])
        self.assertEqual(mixed([(2, other), (3, one)]), [((0, 1), 1), ((1, 2), 2), ((3, 1), 2)])

    def test_tables_of_unlike_sums_of_weights(self):
        one = [((0, 1), 1), ((1, 1), 1)]
        other = [((0, 1), 1), ((1, 1), 99)]
        self.assertEqual(mixed([(1, one), (1, other)]), [((0, 1), 51), ((1, 1), 149)])

    def test_equal_ones_stand_in_one_row(self):
        one = [((2, 1), 1), ((5, 1), 1)]
        self.assertEqual(mixed([(1, one), (1000, one), (7, one)]), one)
        self.assertEqual(mixed([(3, [((2, 1), 1)]), (4, [((2, 1), 1)])]), [((2, 1), 1)])

    def test_one_row(self):
        for table in small_tables():
            for weight in (1, 2, 1000):
                self.assertEqual(mixed([(weight, table)]), table)

    def test_the_greatest_weight(self):
        found = mixed([(1, [((0, 1), 1)]), (1000, [((1, 1), 1)])])
        self.assertEqual(found, [((0, 1), 1), ((1, 1), 1000)])

    def assert_mixed(self, rows):
        weights = sum(weight for weight, table in rows)
        pairs = []
        for weight, table in rows:
            pairs.extend((worth, part * Fraction(weight, weights)) for worth, part in shares_of(table).items())
        self.assert_table(mixed(rows), gathered(pairs))

    def test_small_ones(self):
        source = random.Random(8)
        for many in range(1, 9):
            for again in range(15):
                self.assert_mixed([(source.randrange(1, 1001), source.choice(small_tables())) for row in range(many)])

    def test_long_ones(self):
        self.assert_mixed([(1000 - seed, long_table(seed)) for seed in range(8)])


class Greatest(TablesTest):
    def test_written_out(self):
        coin = [((0, 1), 1), ((1, 1), 1)]
        self.assertEqual(greatest([coin, coin]), [((0, 1), 1), ((1, 1), 3)])
        self.assertEqual(greatest([coin] * 8), [((0, 1), 1), ((1, 1), 255)])
        self.assertEqual(greatest([coin, [((1, 2), 1), ((2, 1), 2)]]), [((1, 2), 1), ((1, 1), 1), ((2, 1), 4)])

    def test_worths_below_what_another_has_for_sure(self):
        sure = [((3, 1), 1)]
        table = [((-2, 1), 1), ((3, 1), 1), ((4, 1), 2)]
        self.assertEqual(greatest([table, sure]), [((3, 1), 1), ((4, 1), 1)])
        self.assertEqual(greatest([sure, [((0, 1), 1), ((1, 1), 5)]]), sure)

    def test_one_table(self):
        for table in small_tables() + [long_table(3)]:
            self.assertEqual(greatest([table]), table)

    def test_gone_through_one_by_one(self):
        source = random.Random(9)
        for many in (1, 2, 3, 4):
            for again in range(12):
                tables = [random_table(source, source.randrange(1, 5), 1, 2) for table in range(many)]
                pairs = []
                for rows in itertools.product(*[shares_of(table).items() for table in tables]):
                    pairs.append((max(worth for worth, part in rows), math.prod(part for worth, part in rows)))
                self.assert_table(greatest(tables), gathered(pairs))

    def assert_greatest(self, tables):
        owns = [shares_of(table) for table in tables]
        reached = [Fraction(0)] * len(owns)
        pairs = []
        behind = Fraction(0)
        for worth in sorted({worth for own in owns for worth in own}):
            reached = [part + own.get(worth, 0) for part, own in zip(reached, owns)]
            together = math.prod(reached)
            if together > behind:
                pairs.append((worth, together - behind))
            behind = together
        self.assert_table(greatest(tables), gathered(pairs))

    def test_eight_tables(self):
        source = random.Random(10)
        for again in range(10):
            self.assert_greatest([random_table(source, source.randrange(1, 9), 1, 2) for table in range(8)])

    def test_long_ones(self):
        self.assert_greatest([long_table(seed) for seed in range(8)])


class CloseTogether(TablesTest):
    """Worths that differ by next to nothing still stand in rising order."""

    worths = [(-1, LONG - 2), (-1, LONG), (0, 1), (1, LONG), (1, LONG - 1), (1, LONG - 2), (LONG - 2, LONG - 1),
              (LONG - 1, LONG), (1, 1), (LONG, LONG - 1)]
    table = [(worth, place + 1) for place, worth in enumerate(worths)]

    def test_mixed(self):
        for many in (2, 5, 8):
            for places in itertools.islice(itertools.permutations(range(many)), 300):
                rows = [(place + 1, [(self.worths[place], 1)]) for place in places]
                self.assertEqual(mixed(rows), self.table[:many])

    def test_greatest(self):
        for one, other in itertools.combinations(range(len(self.worths)), 2):
            low, high = [[(self.worths[place], 1)] for place in (one, other)]
            self.assertEqual(greatest([low, high]), high)
            self.assertEqual(greatest([high, low]), high)
        self.assertEqual(greatest([self.table[:3], self.table[3:4]]), [(self.worths[3], 1)])

    def test_capped(self):
        for place in range(len(self.worths)):
            shares = shares_of(self.table)
            level = Fraction(*self.worths[place])
            pairs = [(min(worth, level), part) for worth, part in shares.items()]
            self.assert_table(capped(self.table, self.worths[place]), gathered(pairs))


class LevelForPrice(TablesTest):
    table = [((0, 1), 1), ((4, 1), 2), ((10, 1), 1)]

    def test_the_price_nought(self):
        self.assertEqual(level_for(self.table, 0), (10, 1))
        for table in small_tables():
            self.assertEqual(level_for(table, 0), table[-1][0])

    def test_amid_the_worths(self):
        self.assertEqual(level_for(self.table, 1), (6, 1))
        self.assertEqual(level_for(self.table, 2), (10, 3))
        self.assertEqual(level_for(self.table, 3), (2, 1))

    def test_at_a_worth(self):
        table = [((0, 1), 1), ((4, 1), 1), ((10, 1), 2)]
        self.assertEqual(level_for(table, 3), (4, 1))
        self.assertEqual(level_for(table, 6), (0, 1))

    def test_below_all_and_below_nought(self):
        self.assertEqual(level_for(self.table, 5), (-1, 2))
        self.assertEqual(level_for(self.table, TOP_WORTH), (9 - 2 * TOP_WORTH, 2))
        self.assertEqual(level_for([((7, 1), 1)], 3), (4, 1))
        self.assertEqual(level_for([((7, 1), 1)], 7), (0, 1))
        self.assertEqual(level_for([((-7, 3), 1)], 3), (-16, 3))

    def assert_level(self, table, price):
        found = level_for(table, price)
        level = Fraction(*found)
        self.assert_fraction(found, level)
        self.assertTrue(had_above(table, level) == price)
        self.assertTrue(had_above(table, level - Fraction(1, 1000)) > price)
        self.assert_fraction(above(table, found), Fraction(price))

    def test_small_ones(self):
        for table in small_tables():
            for price in list(range(40)) + [100, 1000, TOP_WORTH]:
                self.assert_level(table, price)

    def test_made_ones(self):
        source = random.Random(12)
        for rows in range(1, 9):
            given = [(source.randrange(TOP_WORTH + 1), source.randrange(1, 1001)) for row in range(rows)]
            for price in (0, 1, 10 ** 6, 10 ** 8, 3 * 10 ** 8, TOP_WORTH):
                self.assert_level(table_of(given), price)

    def test_long_ones(self):
        for price in (0, 1, TOP_WORTH):
            self.assert_level(long_table(4), price)

    def test_a_hundred_worths_of_few_figures(self):
        table = random_table(random.Random(13), 100, 9, 1000, 1000)
        for price in (0, 1, 10 ** 4, 10 ** 6, 10 ** 8, TOP_WORTH):
            self.assert_level(table, price)


class Own(TablesTest):
    """What is handed in stays as it was, and what is told is the asker's own."""

    def assert_own(self, ask, *given):
        before = copy.deepcopy(given)
        first = ask(*given)
        self.assertEqual(given, before)
        again = copy.deepcopy(first)
        if isinstance(first, list):
            first.clear()
        self.assertEqual(given, before)
        self.assertEqual(ask(*given), again)
        self.assertEqual(given, before)

    def test_table_of(self):
        self.assert_own(table_of, [(5, 2), (3, 4), (5, 1)])
        self.assert_own(table_of, [(3, 1), (5, 1)])

    def test_what_is_told_of_a_table(self):
        for table in small_tables():
            self.assert_own(mean, table)
            for level in ((0, 1), (-3, 2), table[0][0], table[-1][0]):
                self.assert_own(above, table, level)
                self.assert_own(share_from, table, level)
                self.assert_own(capped, table, level)
            for price in (0, 1, 100):
                self.assert_own(level_for, table, price)

    def test_mixed_and_greatest(self):
        for table in small_tables():
            for other in small_tables()[::5]:
                self.assert_own(mixed, [(2, table), (3, other)])
                self.assert_own(greatest, [table, other])

    def test_where_the_table_is_equal_to_one_handed_in(self):
        for table in small_tables():
            self.assert_own(capped, table, (1000, 1))
            self.assert_own(mixed, [(1, table)])
            self.assert_own(mixed, [(1, table), (3, table)])
            self.assert_own(greatest, [table])
            self.assert_own(greatest, [table, [((-1000, 1), 1)]])

    def test_what_is_changed_later_changes_nothing(self):
        rows = [(3, 1), (5, 1)]
        table = table_of(rows)
        rows.clear()
        self.assertEqual(table, [((3, 1), 1), ((5, 1), 1)])
        for ask in (lambda own: capped(own, (9, 1)), lambda own: mixed([(1, own)]), lambda own: greatest([own])):
            own = list(table)
            found = ask(own)
            own.clear()
            self.assertEqual(found, table)


if __name__ == "__main__":
    unittest.main()
