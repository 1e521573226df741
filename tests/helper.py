"""What several test files share: wrong things of all kinds, stands, and what is known of them by other ways."""

import functools
import itertools
import math
import unittest
from fractions import Fraction

from lidprice.cases import Case
from lidprice.desk import Desk
from lidprice.errors import LidError, NoBox, NoPattern
from lidprice.offers import Offers
from lidprice.patterns import Few, Groups, Listed
from lidprice.plans import Open, Stop, Take
from lidprice.stands import End, Stage

TOP_WORTH = 10 ** 9
LONG = 10 ** 200 - 1


def told(fraction):
    return (fraction.numerator, fraction.denominator)


def deep_things():
    deep = [[], (), {}]
    for level in range(49):
        deep = [[deep[0]], (deep[1],), {"a": deep[2]}]
    return deep


def objects():
    end = End(1)
    stage = Stage(1, [(1, end), (2, end)])
    knots = [Stop(), Take(0, Stop()), Open(0, [Stop(), Stop()])]
    return [end, stage, Case([end, stage]), Few(1), Groups([0], [1] * 6), Listed([0]), NoBox(), NoPattern(1, 2),
            LidError(), Offers([[(1, 1)]]), Desk()] + knots


def plain_things():
    """Things of every kind that may be handed in, but whole numbers from 0 to 10 ** 9."""
    things = [None, True, False, "", "0", "1", "end", "~", -1, -2, 10 ** 9 + 1, 10 ** 100 - 1, 1 - 10 ** 100]
    things.extend([[], [0], [1], [[]], [None], (), (0,), (1,), (1, 1), (0, 1), ((),), {}, {0: 0}, {1: 1}, {"a": []}])
    return things + deep_things()


def wrong_things():
    return plain_things() + objects()


def drawn_stand(source, stages=4, ends=12, most_worth=12, most_price=6, most_weight=5):
    """A stand of at most so many stages on a way and ends."""
    if stages == 0 or source.random() < 0.15:
        return End(source.randrange(most_worth + 1))
    many = source.randrange(1, min(4, ends) + 1)
    rest = ends - many
    rows = []
    for row in range(many):
        more = source.randrange(rest + 1) if row < many - 1 else rest
        rest -= more
        stand = drawn_stand(source, stages - 1, 1 + more, most_worth, most_price, most_weight)
        rows.append((source.randrange(1, most_weight + 1), stand))
    source.shuffle(rows)
    return Stage(source.randrange(most_price + 1), rows)


def drawn_stands(source, many):
    stands = [drawn_stand(source) for one in range(many)]
    stands.extend(drawn_stand(source, 4, 12, TOP_WORTH, TOP_WORTH // 8, 1000) for one in range(many // 4))
    stands.extend(drawn_stand(source, 4, 12, 3, 0, 2) for one in range(many // 4))
    return stands


def drawn_boxes(source, many, most=300):
    """So many boxes, of at most so many unfoldings."""
    while True:
        ends = [source.choice((1, 2, 2, 3, 3, 4, 6)) for box in range(many)]
        if math.prod(ends) > most:
            continue
        if source.random() < 0.2:
            return [drawn_stand(source, 3, own, TOP_WORTH, TOP_WORTH // 8, 1000) for own in ends]
        return [drawn_stand(source, source.randrange(1, 5), own) for own in ends]


def chain(stages, price=1, worth=9):
    stand = End(worth)
    for stage in range(stages):
        stand = Stage(price, [(1, stand)])
    return stand


def doc_stand():
    """The stand that the document writes as 3[2:10 1:5[1:0 1:40]]."""
    return Stage(3, [(2, End(10)), (1, Stage(5, [(1, End(0)), (1, End(40))]))])


@functools.cache
def known_ways(stand):
    """The way, the share and the worth of each way of a stand that is told in full."""
    if stand[0] == "end":
        return [((), Fraction(1), stand[1])]
    weights = sum(weight for weight, behind in stand[2])
    found = []
    for row, (weight, behind) in enumerate(stand[2]):
        for way, part, worth in known_ways(behind):
            found.append(((row,) + way, Fraction(weight, weights) * part, worth))
    return found


@functools.cache
def known_reserve(stand):
    """By another way than the program's: the greatest level that just some of the caps can pay for."""
    if stand[0] == "end":
        return Fraction(stand[1])
    caps = sorted(caps_behind(stand), reverse=True)
    levels = []
    for many in range(1, len(caps) + 1):
        top = sum(cap * part for cap, part in caps[:many]) - stand[1]
        levels.append(top / sum(part for cap, part in caps[:many]))
    return max(levels)


def caps_behind(stand):
    """The caps of the stands in a stage's rows, each with the share that it has from the stage."""
    weights = sum(weight for weight, behind in stand[2])
    caps = []
    for weight, behind in stand[2]:
        caps.extend((cap, part * Fraction(weight, weights)) for cap, part in known_caps(behind))
    return caps


@functools.cache
def known_caps(stand):
    """The cap and the share of each way, in the order of the ways."""
    return [(known_cap(stand, way), part) for way, part, worth in known_ways(stand)]


@functools.cache
def known_cap(stand, way):
    levels = [known_reserve(stand)]
    for row in way:
        stand = stand[2][row][1]
        levels.append(known_reserve(stand))
    return min(levels)


def table_by(pairs):
    shares = {}
    for worth, part in pairs:
        shares[worth] = shares.get(worth, 0) + part
    scale = math.lcm(*[part.denominator for part in shares.values()])
    return [(told(worth), int(shares[worth] * scale)) for worth in sorted(shares)]


def sets_by_vectors(vectors):
    """The sets of boxes whose vectors of bits are independent: no sum of some of them is nought."""
    sums = [0]
    for vector in vectors:
        sums += [so_far ^ vector for so_far in sums]
    return [kept for kept in range(len(sums))
            if all(sums[part] for part in range(1, len(sums)) if part & kept == part)]


def drawn_pattern(source, many):
    """A pattern without a flaw among so many boxes, of one of the three sorts."""
    sort = source.randrange(3)
    if sort == 0:
        return Few(source.randrange(many + 1))
    if sort == 1:
        groups = [source.randrange(3) for box in range(source.choice((many, many, source.randrange(1, 7))))]
        return Groups(groups, [source.randrange(1, 4) for group in range(6)])
    sets = sets_by_vectors([source.randrange(8) for box in range(many)])
    # What the pattern says of further boxes is not looked at.
    sets += [kept for kept in range(1 << many, 64) if source.random() < 0.3]
    source.shuffle(sets)
    return Listed(sets)


def sets_among(pattern, many):
    return [kept for kept in range(1 << many) if pattern.may(kept)]


def next_deeds(case):
    deeds = []
    for box in range(case.how_many()):
        stand = case.stand(box)
        if not stand.is_end():
            deeds.extend(("open", box, row) for row in range(len(stand.rows)))
        elif box not in case.kept():
            deeds.append(("take", box))
    return deeds


def behind(case, deed):
    return case.opened(deed[1], deed[2]) if deed[0] == "open" else case.taken(deed[1])


def next_knots(case, pattern):
    """The deeds ("take", box) and ("open", box) that a knot of a plan may have in a case."""
    kept = sum(1 << box for box in case.kept())
    deeds = sorted({deed[:2] for deed in next_deeds(case)})
    return [deed for deed in deeds if deed[0] == "open" or pattern.may(kept | 1 << deed[1])]


def drawn_plan(source, case, pattern, stops=0.15):
    deeds = next_knots(case, pattern)
    if not deeds or source.random() < stops:
        return Stop()
    name, box = source.choice(deeds)
    if name == "take":
        return Take(box, drawn_plan(source, case.taken(box), pattern, stops))
    rows = range(len(case.stand(box).rows))
    return Open(box, [drawn_plan(source, case.opened(box, row), pattern, stops) for row in rows])


def all_plans(case, pattern):
    """Each plan that there is from a case on."""
    found = [Stop()]
    for name, box in next_knots(case, pattern):
        if name == "take":
            found.extend(Take(box, plan) for plan in all_plans(case.taken(box), pattern))
        else:
            rows = range(len(case.stand(box).rows))
            ways = [all_plans(case.opened(box, row), pattern) for row in rows]
            found.extend(Open(box, list(plans)) for plans in itertools.product(*ways))
    return found


def known_leaves(stands, plan, kept=(), paid=0, way=(), part=Fraction(1)):
    """The leaves of a plan, from its boxes told in full, a tuple, and from what it tells."""
    if plan[0] == "stop":
        return [(way, part, tuple(sorted(kept)), sum(stands[box][1] for box in kept) - paid)]
    box = plan[1]
    if plan[0] == "take":
        return known_leaves(stands, plan[2], kept + (box,), paid, way, part)
    price, rows = stands[box][1:]
    weights = sum(weight for weight, stand in rows)
    found = []
    for row, (weight, stand) in enumerate(rows):
        rest = stands[:box] + (stand,) + stands[box + 1:]
        found += known_leaves(rest, plan[2][row], kept, paid + price, way + (row,), part * Fraction(weight, weights))
    return found


def known_worth(stands, plan):
    return sum(part * had for way, part, kept, had in known_leaves(stands, plan))


def known_best(tables, sets):
    """The mean, over all that may come of lists of (cap, share), of the greatest sum of a set."""
    best = Fraction(0)
    for caps in itertools.product(*tables):
        part = math.prod(share for cap, share in caps)
        sums = [sum(caps[box][0] for box in range(len(caps)) if kept >> box & 1) for kept in sets]
        best += part * max(sums)
    return best


def best_of(boxes, pattern):
    return known_best([known_caps(box.told()) for box in boxes], sets_among(pattern, len(boxes)))


def most_of(boxes, pattern):
    """The most that any plan has in the mean, by going through all that can be done in each case."""
    sets = sets_among(pattern, len(boxes))

    @functools.cache
    def most_from(stands, kept):
        found = [Fraction(0)]
        for box, stand in enumerate(stands):
            if stand[0] == "stage":
                weights = sum(weight for weight, after in stand[2])
                found.append(-stand[1] + sum(
                    Fraction(weight, weights) * most_from(stands[:box] + (after,) + stands[box + 1:], kept)
                    for weight, after in stand[2]))
            elif not kept >> box & 1 and kept | 1 << box in sets:
                found.append(stand[1] + most_from(stands, kept | 1 << box))
        return max(found)

    return most_from(tuple(box.told() for box in boxes), 0)


class ExactTest(unittest.TestCase):
    def assert_fraction(self, found, wanted):
        self.assertIs(type(found), tuple)
        self.assertEqual([type(part) for part in found], [int, int])
        self.assertEqual(found, told(Fraction(wanted)))

    def assert_whole(self, found, wanted):
        self.assertIs(type(found), int)
        self.assertEqual(found, wanted)

    def assert_refused(self, error, ask, *given):
        with self.assertRaises(LidError) as caught:
            ask(*given)
        self.assertIs(type(caught.exception), error)
        return caught.exception
