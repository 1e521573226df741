import math
import random
from fractions import Fraction
from unittest import main

from lidprice.best import best, best_from, deed, plan_by_prices, unfoldings
from lidprice.cases import Case
from lidprice.errors import NoBox, NoPattern, NoSets, TooMany
from lidprice.patterns import Few, Groups, Listed
from lidprice.plans import Open, Plan, Stop, Take, check_plan, worth
from lidprice.stands import End, Stage
from tests.helper import (TOP_WORTH, ExactTest, all_plans, behind, best_of, chain, doc_stand, drawn_boxes,
                          drawn_pattern, drawn_plan, drawn_stand, known_best, known_caps, known_leaves, known_reserve,
                          most_of, next_deeds, objects, plain_things, sets_among, wrong_things)


def coin(price=1, low=0, high=8):
    return Stage(price, [(1, End(low)), (1, End(high))])


def fan(ends):
    """A stage with so many ends, each of another worth."""
    if ends <= 4:
        return Stage(1, [(1, End(10 + row)) for row in range(ends)])
    many = -(-ends // 4)
    parts = [ends // many + (1 if row < ends % many else 0) for row in range(many)]
    return Stage(1, [(1, Stage(0, [(1, End(10 * row + inner)) for inner in range(part)]))
                     for row, part in enumerate(parts)])


def known_best_with_one(tables, singles):
    """The mean of the greatest, and nought, of boxes that are each let alone: by the shares up to each cap."""
    tables = [table for box, table in enumerate(tables) if box in singles]
    caps = sorted({max(cap, Fraction(0)) for table in tables for cap, part in table} | {Fraction(0)})
    found = Fraction(0)
    reached = Fraction(0)
    for cap in caps:
        up_to = math.prod([sum(part for own, part in table if own <= cap) for table in tables])
        found += cap * (up_to - reached)
        reached = Fraction(up_to)
    return found


def known_deed(case, pattern):
    kept = sum(1 << box for box in case.kept())
    free = [box for box in range(case.how_many()) if not kept >> box & 1 and pattern.may(kept | 1 << box)]
    reserves = {box: known_reserve(case.stand(box).told()) for box in free}
    if not free or max(reserves.values()) <= 0:
        return ("stop",)
    box = min(box for box in free if reserves[box] == max(reserves.values()))
    return ("take" if case.stand(box).is_end() else "open", box)


def drawn_case(source, boxes, deeds):
    case = Case(boxes)
    for step in range(deeds):
        choice = next_deeds(case)
        if choice:
            case = behind(case, source.choice(choice))
    return case


def caps_now(case):
    """The caps that each box may still come to, from the reserves that were passed, as lists of (cap, share)."""
    tables = []
    for box in range(case.how_many()):
        cap = case.cap(box)
        level = None if cap is None else Fraction(*cap)
        tables.append([(own if level is None else min(own, level), part)
                       for own, part in known_caps(case.stand(box).told())])
    return tables


class BestTest(ExactTest):
    def assert_too_many(self, many, ask, *given):
        error = self.assert_refused(TooMany, ask, *given)
        self.assert_whole(error.many, many)


class Unfoldings(BestTest):
    def test_written_out(self):
        self.assert_whole(unfoldings([End(3)]), 1)
        self.assert_whole(unfoldings([End(3)] * 6), 1)
        self.assert_whole(unfoldings([coin()]), 2)
        self.assert_whole(unfoldings([doc_stand(), coin(), End(1)]), 6)
        self.assert_whole(unfoldings([chain(4)] * 6), 1)

    def test_the_most(self):
        self.assert_whole(unfoldings([fan(12)] * 6), 12 ** 6)

    def test_a_stand_in_two_rows_counts_in_both(self):
        end = End(1)
        stage = Stage(1, [(1, end), (1, end)])
        self.assert_whole(unfoldings([Stage(1, [(1, stage), (1, stage), (1, end)]), stage]), 10)

    def test_drawn_boxes(self):
        source = random.Random(61)
        for many in range(1, 7):
            boxes = [drawn_stand(source) for box in range(many)]
            self.assert_whole(unfoldings(boxes), math.prod(len(box.ways()) for box in boxes))

    def test_no_box(self):
        for thing in wrong_things() + [0, [], [End(1)] * 7, [End(1), None], (End(1),)]:
            with self.subTest(type(thing).__name__):
                self.assert_refused(NoBox, unfoldings, thing)


class OneBox(BestTest):
    def test_written_out(self):
        self.assertEqual(best([End(7)], Few(1)), (7, 1))
        self.assertEqual(best([End(0)], Few(1)), (0, 1))
        self.assertEqual(best([doc_stand()], Few(1)), (26, 3))
        self.assertEqual(best([coin()], Few(1)), (3, 1))
        self.assertEqual(best([coin(5)], Few(1)), (0, 1))
        self.assertEqual(best([coin(4)], Few(1)), (0, 1))

    def test_nothing_may_be_kept(self):
        for pattern in (Few(0), Listed([0]), Listed([0, 2]), Groups([0], [0] * 6)):
            self.assertEqual(best([End(7)], pattern), (0, 1))
            self.assertEqual(plan_by_prices([End(7)], pattern).told(), ("stop",))

    def test_it_is_what_is_had_beside_nought(self):
        source = random.Random(62)
        for one in range(60):
            box = drawn_stand(source, 4, 12, *source.choice(((12, 6, 5), (TOP_WORTH, TOP_WORTH // 8, 1000))))
            self.assertEqual(best([box], Few(1)), box.beside((0, 1)))
            self.assertEqual(best([box], Few(6)), box.beside((0, 1)))

    def test_beside_an_end(self):
        source = random.Random(63)
        for one in range(40):
            box = drawn_stand(source)
            level = source.randrange(13)
            self.assertEqual(best([box, End(level)], Few(1)), box.beside((level, 1)))
            self.assertEqual(best([End(level), box], Few(1)), box.beside((level, 1)))


class OneKept(BestTest):
    def test_written_out(self):
        # Each coin's caps are 0 and 6, each by one half.
        self.assertEqual(best([coin(), coin()], Few(1)), (9, 2))
        self.assertEqual(best([coin()] * 3, Few(1)), (21, 4))
        self.assertEqual(best([coin(), coin(5)], Few(1)), (3, 1))
        self.assertEqual(best([doc_stand(), coin()], Few(1)), (55, 6))

    def test_far_above_300_unfoldings(self):
        source = random.Random(64)
        for many in (3, 4, 5, 6, 6):
            boxes = [drawn_stand(source, 4, 12, 40, 6, 9) for box in range(many - 1)] + [fan(12), fan(12)][:7 - many]
            boxes = (boxes + [fan(11)] * 6)[:6]
            self.assertGreater(unfoldings(boxes), 300)
            wanted = known_best_with_one([known_caps(box.told()) for box in boxes], range(6))
            self.assert_fraction(best(boxes, Few(1)), wanted)
            self.assert_fraction(best(boxes, Groups([3] * 6, [6, 6, 6, 1, 6, 6])), wanted)
            self.assert_fraction(best(boxes, Listed([0, 1, 2, 4, 8, 16, 32])), wanted)
            self.assert_fraction(best_from(Few(1), Case(boxes)), wanted)

    def test_all_at_the_bounds(self):
        source = random.Random(65)
        boxes = []
        while len(boxes) < 6:
            box = drawn_stand(source, 4, 12, TOP_WORTH, TOP_WORTH // 20, 1000)
            if box.ends() == 12:
                boxes.append(box)
        wanted = known_best_with_one([known_caps(box.told()) for box in boxes], range(6))
        self.assert_fraction(best(boxes, Few(1)), wanted)

    def test_without_going_through_all_unfoldings(self):
        # Twelve unlike caps a box: some three millions of unfoldings.
        boxes = [Stage(0, [(1, Stage(0, [(1, End(100 * row + 7 * inner + box)) for inner in range(3)]))
                           for row in range(4)]) for box in range(6)]
        self.assertEqual([len(box.caps()) for box in boxes], [12] * 6)
        wanted = known_best_with_one([known_caps(box.told()) for box in boxes], range(6))
        self.assert_fraction(best(boxes, Few(1)), wanted)
        self.assert_fraction(best_from(Few(1), Case(boxes)), wanted)

    def test_only_some_boxes_may_be_kept(self):
        source = random.Random(66)
        for one in range(20):
            boxes = [drawn_stand(source) for box in range(source.randrange(1, 7))]
            singles = [box for box in range(6) if source.random() < 0.5]
            pattern = Listed([0] + [1 << box for box in singles])
            wanted = known_best_with_one([known_caps(box.told()) for box in boxes], singles)
            self.assert_fraction(best(boxes, pattern), wanted)

    def test_both_ways_tell_the_same(self):
        source = random.Random(67)
        for many in list(range(1, 7)) * 8:
            boxes = drawn_boxes(source, many)
            tables = [known_caps(box.told()) for box in boxes]
            self.assert_fraction(best(boxes, Few(1)), known_best_with_one(tables, range(many)))
            self.assert_fraction(best(boxes, Few(1)), best_of(boxes, Few(1)))

    def test_sets_with_other_boxes_are_not_looked_at(self):
        boxes = [fan(12), fan(12), fan(11)]
        wanted = best(boxes, Few(1))
        for pattern in (Listed([0, 1, 2, 4, 8, 16, 24, 48, 56]), Groups([0, 0, 0, 1, 1], [1, 5, 0, 0, 0, 0]),
                        Listed([0, 1, 2, 4, 9, 10, 12, 63])):
            self.assertEqual(best(boxes, pattern), wanted)
            self.assertEqual(best_from(pattern, Case(boxes)), wanted)
        wanted = best(boxes[:2], Listed([0, 1]))
        self.assertEqual(best(boxes[:2], Listed([0, 1, 7])), wanted)
        self.assertEqual(best(boxes[:2], Groups([0], [6] * 6)), wanted)


class SeveralKept(BestTest):
    def test_written_out(self):
        self.assertEqual(best([coin(), coin()], Few(2)), (6, 1))
        self.assertEqual(best([End(3), End(5), End(4)], Few(2)), (9, 1))
        self.assertEqual(best([End(3), End(5), End(4)], Groups([0, 1, 1], [1, 1, 0, 0, 0, 0])), (8, 1))
        self.assertEqual(best([End(3), End(5), End(4)], Listed([0, 1, 2, 4, 3, 5])), (8, 1))
        self.assertEqual(best([coin(5), End(2), coin()], Few(3)), (5, 1))

    def test_caps_below_nought_are_not_kept(self):
        low = Stage(9, [(1, End(4)), (1, End(0))])
        self.assertEqual(low.reserve(), (-7, 1))
        self.assertEqual(best([low, low, End(1)], Few(3)), (1, 1))
        self.assertEqual(best([low, low], Few(2)), (0, 1))

    def test_by_each_sort_of_pattern(self):
        source = random.Random(68)
        for many in list(range(1, 7)) * 25:
            boxes = drawn_boxes(source, many)
            pattern = drawn_pattern(source, many)
            self.assert_fraction(best(boxes, pattern), best_of(boxes, pattern))
            self.assert_fraction(best_from(pattern, Case(boxes)), best_of(boxes, pattern))

    def test_300_unfoldings(self):
        source = random.Random(69)
        boxes = [fan(12), fan(5), fan(5), End(11)]
        patterns = [Few(2), Few(4), Groups([0, 0, 1, 1], [1, 2, 0, 0, 0, 0]), Listed([0, 1, 2, 3])]
        for pattern in patterns:
            self.assert_whole(unfoldings(boxes), 300)
            self.assert_fraction(best(boxes, pattern), best_of(boxes, pattern))
            shuffled = source.sample(boxes[:3], 3)
            self.assert_fraction(best(shuffled, Few(2)), best_of(shuffled, Few(2)))

    def test_the_most_boxes(self):
        boxes = [fan(4), fan(3), fan(5), fan(5), End(12), chain(4, 1, 20)]
        self.assert_whole(unfoldings(boxes), 300)
        for count in range(7):
            self.assert_fraction(best(boxes, Few(count)), best_of(boxes, Few(count)))


class TooManyUnfoldings(BestTest):
    def test_more_than_300(self):
        for ends in ([11, 7, 4], [12, 12, 3], [7, 11, 2, 2], [2, 3, 4, 5, 6], [12] * 6, [12, 12, 12]):
            boxes = [fan(own) for own in ends]
            many = math.prod(ends)
            for pattern in (Few(2), Few(6), Listed([0, 1, 2, 3]), Groups([0, 1], [1, 1, 0, 0, 0, 0]),
                            Listed(list(range(64)))):
                self.assert_too_many(many, best, boxes, pattern)
                self.assert_too_many(many, best_from, pattern, Case(boxes))
                self.assert_too_many(many, plan_by_prices, boxes, pattern)

    def test_308_is_the_next_that_there_is(self):
        self.assert_too_many(308, best, [fan(7), fan(11), fan(4)], Few(2))
        boxes = [fan(7), fan(11), fan(3)]
        self.assert_fraction(best(boxes, Few(2)), best_of(boxes, Few(2)))

    def test_the_plan_by_prices_by_whatever_pattern(self):
        boxes = [fan(12), fan(12), fan(3)]
        for pattern in (Few(0), Few(1), Few(3), Listed([0]), Groups([0] * 6, [1] * 6)):
            self.assert_too_many(432, plan_by_prices, boxes, pattern)
        # Even where it would stop at once.
        self.assert_too_many(1728, plan_by_prices, [Stage(TOP_WORTH, [(1, fan(6)), (1, fan(6))])] * 3, Few(1))

    def test_a_pair_of_boxes_is_enough(self):
        boxes = [fan(12), fan(12), fan(12)]
        for pair in (3, 5, 6):
            sets = [kept for kept in range(8) if kept & pair == kept]
            self.assert_too_many(1728, best, boxes, Listed(sets))
        self.assert_too_many(1728, best, boxes, Listed([0, 1, 2, 4, 3, 5]))
        for single in (1, 2, 4):
            self.assertEqual(best(boxes, Listed([0, single])), fan(12).beside((0, 1)))

    def test_present_stands_count(self):
        boxes = [fan(12), fan(12), fan(3)]
        case = Case(boxes)
        self.assert_too_many(432, best_from, Few(2), case)
        opened = case.opened(0, 1)
        self.assert_fraction(best_from(Few(2), opened), known_best(caps_now(opened), sets_among(Few(2), 3)))
        self.assert_too_many(12 * 12 * 12 // 3, best_from, Few(2), Case([fan(12)] * 3).opened(1, 0))


class FromACase(BestTest):
    def test_written_out(self):
        case = Case([doc_stand(), End(7)])
        self.assertEqual(best_from(Few(1), case), best([doc_stand(), End(7)], Few(1)))
        opened = case.opened(0, 1)
        # The caps that come are 0 and 12, each by one half, beside the end's 7.
        self.assertEqual(best_from(Few(1), opened), (19, 2))
        self.assertEqual(best_from(Few(2), opened), (13, 1))
        self.assertEqual(best_from(Few(1), opened.opened(0, 1)), (12, 1))
        self.assertEqual(best_from(Few(2), opened.opened(0, 1)), (19, 1))
        self.assertEqual(best_from(Few(0), opened), (0, 1))

    def test_boxes_kept_have_their_cap(self):
        case = Case([doc_stand(), End(7)]).opened(0, 1).opened(0, 1)
        for pattern in (Few(0), Few(1), Few(2)):
            wanted = best_from(pattern, case)
            self.assertEqual(best_from(pattern, case.taken(0)), wanted)
            self.assertEqual(best_from(pattern, case.taken(1)), wanted)
            self.assertEqual(best_from(pattern, case.taken(1).taken(0)), wanted)

    def test_drawn_cases(self):
        source = random.Random(70)
        for many in list(range(1, 7)) * 25:
            boxes = drawn_boxes(source, many)
            pattern = drawn_pattern(source, many)
            case = drawn_case(source, boxes, source.randrange(10))
            self.assert_fraction(best_from(pattern, case), known_best(caps_now(case), sets_among(pattern, many)))

    def test_it_is_the_mean_over_the_rows(self):
        source = random.Random(71)
        looked_at = 0
        for many in list(range(1, 7)) * 12:
            boxes = drawn_boxes(source, many)
            pattern = drawn_pattern(source, many)
            case = drawn_case(source, boxes, source.randrange(6))
            for box in range(many):
                stage = case.stand(box)
                if not stage.is_end():
                    looked_at += 1
                    mean = sum(Fraction(*stage.row_share(row)) * Fraction(*best_from(pattern, case.opened(box, row)))
                               for row in range(len(stage.rows)))
                    self.assert_fraction(best_from(pattern, case), mean)
        self.assertGreater(looked_at, 100)

    def test_far_above_300_with_one_kept(self):
        boxes = [fan(12), fan(11), fan(10), fan(9), doc_stand()]
        case = Case(boxes).opened(0, 1).opened(4, 1)
        wanted = known_best_with_one(caps_now(case), range(5))
        self.assert_fraction(best_from(Few(1), case), wanted)

    def test_it_changes_nothing(self):
        case = Case([doc_stand(), coin(), End(7)]).opened(0, 1).taken(2)
        before = (case.deeds(), case.kept(), case.left(), case.stand(0).told())
        wanted = (best_from(Few(2), case), deed(Few(2), case))
        self.assertEqual((best_from(Few(2), case), deed(Few(2), case)), wanted)
        self.assertEqual((case.deeds(), case.kept(), case.left(), case.stand(0).told()), before)


class Deed(BestTest):
    def assert_deed(self, wanted, pattern, case):
        found = deed(pattern, case)
        self.assertIs(type(found), tuple)
        self.assertEqual([type(part) for part in found], [type(part) for part in wanted])
        self.assertEqual(found, wanted)

    def test_each_kind(self):
        self.assert_deed(("open", 0), Few(1), Case([doc_stand(), End(7)]))
        self.assert_deed(("take", 1), Few(1), Case([doc_stand(), End(13)]))
        self.assert_deed(("open", 1), Few(1), Case([End(11), doc_stand()]))
        self.assert_deed(("stop",), Few(1), Case([End(0), coin(4)]))

    def test_equal_reserves(self):
        self.assert_deed(("open", 0), Few(1), Case([doc_stand(), doc_stand()]))
        self.assert_deed(("open", 0), Few(1), Case([doc_stand(), End(12)]))
        self.assert_deed(("take", 0), Few(1), Case([End(12), doc_stand()]))
        self.assert_deed(("take", 1), Few(1), Case([End(5), End(12), doc_stand(), End(12)]))
        self.assert_deed(("open", 2), Few(2), Case([End(5), End(12), doc_stand(), End(12)]).taken(1))

    def test_reserves_of_nought_and_below(self):
        self.assertEqual(coin(4).reserve(), (0, 1))
        self.assertEqual(coin(5).reserve(), (-1, 1))
        for boxes in ([End(0)], [coin(4)], [coin(5)], [coin(5), End(0), coin(4)]):
            for count in range(3):
                self.assert_deed(("stop",), Few(count), Case(boxes))
        self.assert_deed(("open", 1), Few(1), Case([coin(4), Stage(999, [(1, End(1000)), (999, End(999))])]))
        self.assert_deed(("take", 2), Few(1), Case([coin(5), End(0), End(1)]))

    def test_boxes_that_may_no_longer_be_kept(self):
        case = Case([End(9), doc_stand(), End(7)])
        self.assert_deed(("open", 1), Few(2), case.taken(0))
        self.assert_deed(("stop",), Few(1), case.taken(0))
        self.assert_deed(("stop",), Few(0), case)
        groups = Groups([0, 0, 1], [1, 1, 0, 0, 0, 0])
        self.assert_deed(("open", 1), groups, case)
        self.assert_deed(("take", 2), groups, case.taken(0))
        self.assert_deed(("stop",), groups, case.taken(0).taken(2))
        self.assert_deed(("take", 2), Listed([0, 1, 4, 5]), case.taken(0))
        self.assert_deed(("take", 0), Listed([0, 1, 4, 5]), case)
        self.assert_deed(("take", 0), Groups([0], [1] * 6), case)

    def test_a_box_kept_whatever_the_pattern_has(self):
        # A case looks at no pattern, so more may be kept than the pattern lets.
        case = Case([End(9), End(8), End(7)]).taken(0).taken(1)
        self.assert_deed(("stop",), Few(1), case)
        self.assert_deed(("take", 2), Few(3), case)

    def test_boxes_kept_go_on_counting(self):
        case = Case([End(9), End(8), coin()]).taken(1)
        self.assert_deed(("take", 0), Few(2), case)
        self.assert_deed(("open", 2), Few(3), case.taken(0))
        self.assert_deed(("take", 2), Few(3), case.taken(0).opened(2, 1))
        self.assert_deed(("stop",), Few(3), case.taken(0).opened(2, 0))

    def test_the_present_reserve_goes(self):
        case = Case([doc_stand(), End(11)])
        self.assert_deed(("open", 0), Few(1), case)
        self.assert_deed(("take", 1), Few(1), case.opened(0, 0))
        self.assert_deed(("open", 0), Few(1), case.opened(0, 1))
        self.assert_deed(("take", 0), Few(1), case.opened(0, 1).opened(0, 1))
        self.assert_deed(("take", 1), Few(1), case.opened(0, 1).opened(0, 0))

    def test_for_however_many_unfoldings(self):
        case = Case([fan(12)] * 6)
        self.assert_deed(("open", 0), Few(6), case)
        self.assert_deed(("open", 0), Few(1), case)

    def test_drawn_cases(self):
        source = random.Random(72)
        for many in list(range(1, 7)) * 30:
            boxes = drawn_boxes(source, many, 10 ** 9)
            pattern = drawn_pattern(source, many)
            case = drawn_case(source, boxes, source.randrange(12))
            self.assert_deed(known_deed(case, pattern), pattern, case)


class PlanByPrices(BestTest):
    def assert_by_prices(self, plan, pattern, case):
        """Each knot is the deed by prices in the case to which its way leads."""
        wanted = known_deed(case, pattern)
        if wanted[0] == "stop":
            self.assertIs(type(plan), Stop)
            return
        self.assertIs(type(plan.box), int)
        self.assertEqual(plan.box, wanted[1])
        if wanted[0] == "take":
            self.assertIs(type(plan), Take)
            self.assert_by_prices(plan.then, pattern, case.taken(plan.box))
            return
        self.assertIs(type(plan), Open)
        self.assertIs(type(plan.plans), tuple)
        self.assertEqual(len(plan.plans), len(case.stand(plan.box).rows))
        for row, then in enumerate(plan.plans):
            self.assert_by_prices(then, pattern, case.opened(plan.box, row))

    def test_written_out(self):
        self.assertEqual(plan_by_prices([doc_stand(), End(7)], Few(1)).told(), (
            "open", 0, (("take", 0, ("stop",)), ("open", 0, (("take", 1, ("stop",)), ("take", 0, ("stop",)))))))
        self.assertEqual(plan_by_prices([End(3), End(5)], Few(2)).told(), ("take", 1, ("take", 0, ("stop",))))
        self.assertEqual(plan_by_prices([coin(4)], Few(1)).told(), ("stop",))
        self.assertEqual(plan_by_prices([coin()], Few(1)).told(), ("open", 0, (("stop",), ("take", 0, ("stop",)))))

    def test_it_is_a_plan_and_has_the_best(self):
        source = random.Random(73)
        for many in list(range(1, 7)) * 20:
            boxes = drawn_boxes(source, many)
            pattern = drawn_pattern(source, many)
            plan = plan_by_prices(boxes, pattern)
            self.assertIsInstance(plan, Plan)
            self.assertIsNone(check_plan(boxes, pattern, plan))
            self.assert_by_prices(plan, pattern, Case(boxes))
            self.assertEqual(worth(boxes, pattern, plan), best(boxes, pattern))

    def test_300_unfoldings(self):
        for boxes in ([fan(12), fan(5), fan(5)], [fan(4), fan(3), fan(5), fan(5), End(12), chain(4, 1, 20)]):
            for pattern in (Few(1), Few(2), Few(6)):
                plan = plan_by_prices(boxes, pattern)
                self.assertEqual(worth(boxes, pattern, plan), best(boxes, pattern))
                self.assert_by_prices(plan, pattern, Case(boxes))

    def test_a_new_plan_each_time(self):
        boxes = [doc_stand(), End(7)]
        one = plan_by_prices(boxes, Few(1))
        other = plan_by_prices(boxes, Few(1))
        self.assertEqual(one.told(), other.told())
        boxes.append(End(100))
        self.assertEqual(one.told(), other.told())


class NoPlanHasMore(BestTest):
    def test_of_all_plans(self):
        tiny = [
            ([coin()], Few(1)), ([doc_stand()], Few(1)), ([coin(), coin(2, 3, 9)], Few(1)),
            ([coin(1, 2, 6), coin(2, 1, 9)], Few(2)), ([End(3), doc_stand()], Few(1)), ([coin(5), coin()], Few(1)),
            ([coin(0, 1, 2), End(1), End(2)], Groups([0, 1, 1], [1, 1, 0, 0, 0, 0])),
            ([coin(), End(4), End(3)], Listed([0, 1, 2, 3, 4, 5])),
        ]
        for boxes, pattern in tiny:
            stands = tuple(box.told() for box in boxes)
            plans = all_plans(Case(boxes), pattern)
            self.assertGreater(len(plans), 3)
            worths = [sum(part * had for way, part, kept, had in known_leaves(stands, plan.told())) for plan in plans]
            self.assert_fraction(best(boxes, pattern), max(worths))
            self.assertIn(plan_by_prices(boxes, pattern).told(), [plan.told() for plan in plans])

    def test_by_going_back_through_all_cases(self):
        source = random.Random(74)
        for many in [1, 2, 3] * 30 + [4] * 8:
            boxes = drawn_boxes(source, many, 40)
            pattern = drawn_pattern(source, many)
            self.assert_fraction(best(boxes, pattern), most_of(boxes, pattern))

    def test_drawn_plans(self):
        source = random.Random(75)
        for many in list(range(1, 7)) * 10:
            boxes = drawn_boxes(source, many)
            pattern = drawn_pattern(source, many)
            most = Fraction(*best(boxes, pattern))
            self.assertGreaterEqual(most, 0)
            for one in range(5):
                plan = drawn_plan(source, Case(boxes), pattern)
                self.assertLessEqual(Fraction(*worth(boxes, pattern, plan)), most)


class OrderOfRefusals(BestTest):
    def wrong_patterns(self):
        return plain_things() + [thing for thing in objects() if not isinstance(thing, (Few, Groups, Listed))]

    def test_no_box_goes_first(self):
        for thing in wrong_things() + [0, [], [End(1)] * 7, [End(1), None], [fan(12)] * 7]:
            with self.subTest(type(thing).__name__):
                for ask in (best, plan_by_prices):
                    for pattern in (Few(1), None, Listed([1])):
                        self.assert_refused(NoBox, ask, thing, pattern)

    def test_then_no_sets(self):
        for thing in self.wrong_patterns() + [0, 1, ("few", 1), "few 1"]:
            with self.subTest(type(thing).__name__):
                for boxes in ([End(1)], [fan(12)] * 6):
                    self.assert_refused(NoSets, best, boxes, thing)
                    self.assert_refused(NoSets, plan_by_prices, boxes, thing)
                    self.assert_refused(NoSets, best_from, thing, Case(boxes))
                    self.assert_refused(NoSets, deed, thing, Case(boxes))

    def test_then_no_pattern(self):
        for sets, one, other in (([1], 0, 0), ([0, 3, 1], 3, 2), ([0, 1, 2, 4, 3], 3, 4)):
            for boxes in ([coin()] * 3, [fan(12)] * 3):
                pattern = Listed(sets)
                asks = [lambda: best(boxes, pattern), lambda: plan_by_prices(boxes, pattern),
                        lambda: best_from(pattern, Case(boxes)), lambda: deed(pattern, Case(boxes))]
                for ask in asks:
                    error = self.assert_refused(NoPattern, ask)
                    self.assertEqual((error.one, error.other), (one, other))

    def test_then_too_many(self):
        self.assert_too_many(12 ** 6, best, [fan(12)] * 6, Few(2))
        self.assert_too_many(12 ** 6, plan_by_prices, [fan(12)] * 6, Few(1))
        self.assert_too_many(12 ** 6, best_from, Few(2), Case([fan(12)] * 6))

    def test_what_is_handed_in_stays(self):
        boxes = [doc_stand(), coin(), End(4)]
        given = list(boxes)
        stands = [box.told() for box in boxes]
        pattern = Listed([0, 1, 2, 4, 3, 5])
        wanted = (best(boxes, pattern), plan_by_prices(boxes, pattern).told(), unfoldings(boxes))
        self.assertEqual((best(boxes, pattern), plan_by_prices(boxes, pattern).told(), unfoldings(boxes)), wanted)
        self.assertEqual(boxes, given)
        self.assertEqual([box.told() for box in boxes], stands)
        self.assertEqual(pattern.told(), ("listed", (0, 1, 2, 3, 4, 5)))


if __name__ == "__main__":
    main()
