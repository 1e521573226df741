"""What is promised over the whole program: of plans, and of boxes multiplied, bettered and exchanged."""

import random
from fractions import Fraction
from unittest import main

from lidprice.best import best, best_from, deed, plan_by_prices
from lidprice.cases import Case
from lidprice.ledger import adds_up, ledger, losses, lost
from lidprice.patterns import Few, Groups, Listed
from lidprice.plans import Open, Stop, Take, worth
from lidprice.shares import times, whole
from lidprice.stands import End, Stage
from tests.helper import (TOP_WORTH, ExactTest, behind, doc_stand, drawn_boxes, drawn_pattern, drawn_plan,
                          known_worth, most_of, next_deeds, sets_among)


def changed(stand, change_worth, change_price):
    if stand.is_end():
        return End(change_worth(stand.worth))
    rows = [(weight, changed(after, change_worth, change_price)) for weight, after in stand.rows]
    return Stage(change_price(stand.price), rows)


def multiplied(stand, factor):
    return changed(stand, lambda number: number * factor, lambda number: number * factor)


def exchanged_set(kept, places):
    return sum(1 << place for box, place in enumerate(places) if kept >> box & 1)


def exchanged_plan(plan, places):
    if isinstance(plan, Stop):
        return Stop()
    if isinstance(plan, Take):
        return Take(places[plan.box], exchanged_plan(plan.then, places))
    return Open(places[plan.box], [exchanged_plan(then, places) for then in plan.plans])


def small_boxes(source, many):
    """Boxes of small numbers, so that a factor keeps them within the bounds."""
    while True:
        boxes = drawn_boxes(source, many)
        if max(row[3] for box in boxes for row in box.ways()) < 1000:
            return boxes


def drawn(seed, many_times):
    """Boxes of small numbers, a pattern and a plan for both."""
    source = random.Random(seed)
    for many in list(range(1, 7)) * many_times:
        boxes = small_boxes(source, many)
        pattern = drawn_pattern(source, many)
        yield source, boxes, pattern, drawn_plan(source, Case(boxes), pattern, 0.1)


class PromiseOfPlans(ExactTest):
    def test_no_plan_has_more_and_the_plan_by_prices_has_just_that(self):
        source = random.Random(91)
        for many in [1, 2, 3] * 8:
            boxes = drawn_boxes(source, many, 30)
            pattern = drawn_pattern(source, many)
            most = most_of(boxes, pattern)
            self.assert_fraction(best(boxes, pattern), most)
            stands = tuple(box.told() for box in boxes)
            self.assertEqual(known_worth(stands, plan_by_prices(boxes, pattern).told()), most)

    def test_what_is_had_and_lost_comes_to_the_best(self):
        for source, boxes, pattern, plan in drawn(92, 6):
            rows = ledger(boxes, pattern, plan)
            self.assertTrue(adds_up(best(boxes, pattern), rows))
            loss = Fraction(*lost(boxes, pattern, plan))
            self.assert_fraction(best(boxes, pattern), Fraction(*worth(boxes, pattern, plan)) + loss)
            self.assertEqual(loss == 0, losses(boxes, pattern, plan) == [])


class Multiplied(ExactTest):
    def test_reserves_and_caps(self):
        for source, boxes, pattern, plan in drawn(93, 5):
            factor = whole(source.choice((1, 2, 7, 1000)))
            for box in boxes:
                more = multiplied(box, factor[0])
                self.assertEqual(more.reserve(), times(factor, box.reserve()))
                self.assertEqual(more.caps(), [(times(factor, cap), weight) for cap, weight in box.caps()])
                self.assertEqual([row[2] for row in more.ways()], [times(factor, row[2]) for row in box.ways()])

    def test_bests_worths_and_losses(self):
        for source, boxes, pattern, plan in drawn(94, 8):
            factor = whole(source.choice((1, 3, 10, 999)))
            more = [multiplied(box, factor[0]) for box in boxes]
            self.assertEqual(best(more, pattern), times(factor, best(boxes, pattern)))
            self.assertEqual(worth(more, pattern, plan), times(factor, worth(boxes, pattern, plan)))
            self.assertEqual(lost(more, pattern, plan), times(factor, lost(boxes, pattern, plan)))
            self.assertEqual(losses(more, pattern, plan), [
                (way, times(factor, left), times(factor, missed)) for way, left, missed in losses(boxes, pattern, plan)])
            self.assertEqual(ledger(more, pattern, plan), [
                (way, part, had * factor[0], times(factor, left), times(factor, missed))
                for way, part, had, left, missed in ledger(boxes, pattern, plan)])
            self.assertEqual(plan_by_prices(more, pattern).told(), plan_by_prices(boxes, pattern).told())

    def test_up_to_the_bounds(self):
        boxes = [Stage(3, [(2, End(10)), (1, Stage(5, [(1, End(0)), (1, End(40))]))]), End(7)]
        factor = TOP_WORTH // 40
        more = [multiplied(box, factor) for box in boxes]
        self.assertEqual(best(boxes, Few(1)), (59, 6))
        self.assert_fraction(best(more, Few(1)), Fraction(59, 6) * factor)


class Bettered(ExactTest):
    def assert_no_less(self, more, less):
        self.assertGreaterEqual(Fraction(*more), Fraction(*less))

    def test_a_worth_raised(self):
        for source, boxes, pattern, plan in drawn(95, 8):
            box = source.randrange(len(boxes))
            raised = list(boxes)
            raised[box] = self.with_one_changed(source, boxes[box], "end", source.choice((1, 5, 500)))
            self.assert_no_less(best(raised, pattern), best(boxes, pattern))

    def test_a_price_lowered(self):
        for source, boxes, pattern, plan in drawn(96, 8):
            box = source.randrange(len(boxes))
            lowered = list(boxes)
            lowered[box] = self.with_one_changed(source, boxes[box], "stage", -source.choice((1, 2, 500)))
            self.assert_no_less(best(lowered, pattern), best(boxes, pattern))

    def with_one_changed(self, source, stand, kind, more):
        """The stand with the number of one of its ends, or of its stages, changed, but never below 0."""
        def numbers(one):
            own = [] if (kind == "end") != one.is_end() else [()]
            if not one.is_end():
                own += [(row,) + way for row, (weight, after) in enumerate(one.rows) for way in numbers(after)]
            return own

        def rebuilt(one, way):
            if way == ():
                if one.is_end():
                    return End(max(0, one.worth + more))
                return Stage(max(0, one.price + more), list(one.rows))
            rows = list(one.rows)
            rows[way[0]] = (rows[way[0]][0], rebuilt(rows[way[0]][1], way[1:]))
            return Stage(one.price, rows)

        ways = numbers(stand)
        return rebuilt(stand, source.choice(ways)) if ways else stand

    def test_all_worths_raised_and_all_prices_lowered(self):
        for source, boxes, pattern, plan in drawn(97, 4):
            raised = [changed(box, lambda number: number + source.randrange(3), lambda number: number) for box in boxes]
            lowered = [changed(box, lambda number: number, lambda number: number // 2) for box in boxes]
            self.assert_no_less(best(raised, pattern), best(boxes, pattern))
            self.assert_no_less(best(lowered, pattern), best(boxes, pattern))
            self.assert_no_less(best([changed(box, lambda number: number, lambda number: 0) for box in boxes], pattern),
                                best(lowered, pattern))

    def test_a_pattern_that_lets_more_be_kept(self):
        for source, boxes, pattern, plan in drawn(98, 6):
            many = len(boxes)
            bests = [best(boxes, Few(count)) for count in range(7)]
            for less, more in zip(bests, bests[1:]):
                self.assert_no_less(more, less)
            sets = sets_among(pattern, many)
            count = source.randrange(3)
            fewer = Listed([kept for kept in sets if bin(kept).count("1") <= count])
            self.assert_no_less(best(boxes, pattern), best(boxes, fewer))
            self.assert_no_less(best(boxes, Few(6)), best(boxes, pattern))
            self.assert_no_less(best(boxes, pattern), best(boxes, Few(0)))

    def test_groups_that_let_more_be_kept(self):
        for source, boxes, pattern, plan in drawn(99, 4):
            groups = [source.randrange(2) for box in boxes]
            bests = [best(boxes, Groups(groups, [count, 1, 0, 0, 0, 0])) for count in range(5)]
            for less, more in zip(bests, bests[1:]):
                self.assert_no_less(more, less)


class Exchanged(ExactTest):
    def test_all_that_is_told(self):
        for source, boxes, pattern, plan in drawn(100, 8):
            many = len(boxes)
            places = source.sample(range(many), many)
            others = [boxes[places.index(place)] for place in range(many)]
            mirrored = Listed([exchanged_set(kept, places) for kept in sets_among(pattern, many)])
            turned = exchanged_plan(plan, places)
            self.assertEqual(best(others, mirrored), best(boxes, pattern))
            self.assertEqual(worth(others, mirrored, turned), worth(boxes, pattern, plan))
            self.assertEqual(ledger(others, mirrored, turned), ledger(boxes, pattern, plan))
            self.assertEqual(losses(others, mirrored, turned), losses(boxes, pattern, plan))
            self.assertEqual(worth(others, mirrored, plan_by_prices(others, mirrored)), best(boxes, pattern))

    def test_the_deed_by_prices(self):
        for source, boxes, pattern, plan in drawn(101, 6):
            many = len(boxes)
            case = Case(boxes)
            places = source.sample(range(many), many)
            others = Case([boxes[places.index(place)] for place in range(many)])
            mirrored = Listed([exchanged_set(kept, places) for kept in sets_among(pattern, many)])
            for step in range(source.randrange(4)):
                choice = next_deeds(case)
                if choice:
                    one = source.choice(choice)
                    case = behind(case, one)
                    others = behind(others, (one[0], places[one[1]]) + one[2:])
            self.assertEqual(best_from(mirrored, others), best_from(pattern, case))
            reserves = [case.stand(box).reserve() for box in range(many)]
            if len(set(reserves)) == many:
                found = deed(pattern, case)
                self.assertEqual(deed(mirrored, others), found if found == ("stop",) else (found[0], places[found[1]]))

    def test_of_equal_ones_the_least_number_goes_first(self):
        boxes = [doc_stand(), End(12)]
        self.assertEqual(deed(Few(1), Case(boxes)), ("open", 0))
        self.assertEqual(deed(Few(1), Case(boxes[::-1])), ("take", 0))


if __name__ == "__main__":
    main()
