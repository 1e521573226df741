"""What several test files share: wrong things of all kinds, stands, and what is known of them by other ways."""

import functools
import math
import unittest
from fractions import Fraction

from lidprice.cases import Case
from lidprice.errors import LidError, NoBox, NoPattern
from lidprice.patterns import Few, Groups, Listed
from lidprice.stands import End, Stage

TOP_WORTH = 10 ** 9
LONG = 10 ** 200 - 1


def told(fraction):
    return (fraction.numerator, fraction.denominator)


def deep_things():
    deep = [[], (), {}]
    for level in range(49):
        deep = [[deep[0]], (deep[1],), {"a": deep[2]}]
    return deep


def objects():
    end = End(1)
    stage = Stage(1, [(1, end), (2, end)])
    return [end, stage, Case([end, stage]), Few(1), Groups([0], [1] * 6), Listed([0]), NoBox(), NoPattern(1, 2),
            LidError()]


def plain_things():
    """Things of every kind that may be handed in, but whole numbers from 0 to 10 ** 9."""
    things = [None, True, False, "", "0", "1", "end", "~", -1, -2, 10 ** 9 + 1, 10 ** 100 - 1, 1 - 10 ** 100]
    things.extend([[], [0], [1], [[]], [None], (), (0,), (1,), (1, 1), (0, 1), ((),), {}, {0: 0}, {1: 1}, {"a": []}])
    return things + deep_things()


def wrong_things():
    return plain_things() + objects()


def drawn_stand(source, stages=4, ends=12, most_worth=12, most_price=6, most_weight=5):
    """A stand of at most so many stages on a way and ends."""
    if stages == 0 or source.random() < 0.15:
        return End(source.randrange(most_worth + 1))
    many = source.randrange(1, min(4, ends) + 1)
    rest = ends - many
    rows = []
    for row in range(many):
        more = source.randrange(rest + 1) if row < many - 1 else rest
        rest -= more
        stand = drawn_stand(source, stages - 1, 1 + more, most_worth, most_price, most_weight)
        rows.append((source.randrange(1, most_weight + 1), stand))
    source.shuffle(rows)
    return Stage(source.randrange(most_price + 1), rows)


def drawn_stands(source, many):
    stands = [drawn_stand(source) for one in range(many)]
    stands.extend(drawn_stand(source, 4, 12, TOP_WORTH, TOP_WORTH // 8, 1000) for one in range(many // 4))
    stands.extend(drawn_stand(source, 4, 12, 3, 0, 2) for one in range(many // 4))
    return stands


def chain(stages, price=1, worth=9):
    stand = End(worth)
    for stage in range(stages):
        stand = Stage(price, [(1, stand)])
    return stand


def doc_stand():
    """The stand that the document writes as 3[2:10 1:5[1:0 1:40]]."""
    return Stage(3, [(2, End(10)), (1, Stage(5, [(1, End(0)), (1, End(40))]))])


@functools.cache
def known_ways(stand):
    """The way, the share and the worth of each way of a stand that is told in full."""
    if stand[0] == "end":
        return [((), Fraction(1), stand[1])]
    weights = sum(weight for weight, behind in stand[2])
    found = []
    for row, (weight, behind) in enumerate(stand[2]):
        for way, part, worth in known_ways(behind):
            found.append(((row,) + way, Fraction(weight, weights) * part, worth))
    return found


@functools.cache
def known_reserve(stand):
    """By another way than the program's: the greatest level that just some of the caps can pay for."""
    if stand[0] == "end":
        return Fraction(stand[1])
    caps = sorted(caps_behind(stand), reverse=True)
    levels = []
    for many in range(1, len(caps) + 1):
        top = sum(cap * part for cap, part in caps[:many]) - stand[1]
        levels.append(top / sum(part for cap, part in caps[:many]))
    return max(levels)


def caps_behind(stand):
    """The caps of the stands in a stage's rows, each with the share that it has from the stage."""
    weights = sum(weight for weight, behind in stand[2])
    caps = []
    for weight, behind in stand[2]:
        caps.extend((cap, part * Fraction(weight, weights)) for cap, part in known_caps(behind))
    return caps


@functools.cache
def known_caps(stand):
    """The cap and the share of each way, in the order of the ways."""
    return [(known_cap(stand, way), part) for way, part, worth in known_ways(stand)]


@functools.cache
def known_cap(stand, way):
    levels = [known_reserve(stand)]
    for row in way:
        stand = stand[2][row][1]
        levels.append(known_reserve(stand))
    return min(levels)


def table_by(pairs):
    shares = {}
    for worth, part in pairs:
        shares[worth] = shares.get(worth, 0) + part
    scale = math.lcm(*[part.denominator for part in shares.values()])
    return [(told(worth), int(shares[worth] * scale)) for worth in sorted(shares)]


class ExactTest(unittest.TestCase):
    def assert_fraction(self, found, wanted):
        self.assertIs(type(found), tuple)
        self.assertEqual([type(part) for part in found], [int, int])
        self.assertEqual(found, told(Fraction(wanted)))

    def assert_whole(self, found, wanted):
        self.assertIs(type(found), int)
        self.assertEqual(found, wanted)

    def assert_refused(self, error, ask, *given):
        with self.assertRaises(LidError) as caught:
            ask(*given)
        self.assertIs(type(caught.exception), error)
        return caught.exception
