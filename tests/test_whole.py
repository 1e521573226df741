"""What is promised over the whole program: of reserves, plans and offers, and of boxes changed and exchanged."""

import itertools
import random
from fractions import Fraction
from unittest import main

from lidprice.best import best, best_from, deed, plan_by_prices
from lidprice.cases import Case
from lidprice.desk import Desk
from lidprice.errors import NoPattern
from lidprice.ledger import adds_up, ledger, losses, lost
from lidprice.offers import Offers, near_half
from lidprice.patterns import Few, Groups, Listed, chosen, flaw, need_pattern, short_worths
from lidprice.plans import Open, Stop, Take, check_plan, worth
from lidprice.ranks import best_gone, first_better, rank_losses, rank_worths, share_by
from lidprice.shares import times, whole
from lidprice.stands import End, Stage
from lidprice.tables import above, greatest, mean
from lidprice.texts import read_boxes, read_pattern, read_plan, write_boxes, write_pattern, write_plan, write_share
from tests.helper import (TOP_WORTH, ExactTest, behind, doc_stand, drawn_boxes, drawn_pattern, drawn_plan,
                          drawn_stands, known_worth, most_of, next_deeds, sets_among, told)


def changed(stand, change_worth, change_price):
    if stand.is_end():
        return End(change_worth(stand.worth))
    rows = [(weight, changed(after, change_worth, change_price)) for weight, after in stand.rows]
    return Stage(change_price(stand.price), rows)


def multiplied(stand, factor):
    return changed(stand, lambda number: number * factor, lambda number: number * factor)


def exchanged_set(kept, places):
    return sum(1 << place for box, place in enumerate(places) if kept >> box & 1)


def exchanged_plan(plan, places):
    if isinstance(plan, Stop):
        return Stop()
    if isinstance(plan, Take):
        return Take(places[plan.box], exchanged_plan(plan.then, places))
    return Open(places[plan.box], [exchanged_plan(then, places) for then in plan.plans])


def small_boxes(source, many):
    """Boxes of small numbers, so that a factor keeps them within the bounds."""
    while True:
        boxes = drawn_boxes(source, many)
        if max(row[3] for box in boxes for row in box.ways()) < 1000:
            return boxes


def drawn(seed, many_times):
    """Boxes of small numbers, a pattern and a plan for both."""
    source = random.Random(seed)
    for many in list(range(1, 7)) * many_times:
        boxes = small_boxes(source, many)
        pattern = drawn_pattern(source, many)
        yield source, boxes, pattern, drawn_plan(source, Case(boxes), pattern, 0.1)


def level_of(source):
    return Fraction(source.randrange(-30, 60), source.randrange(1, 5))


def as_box(rows):
    """An offer as a box of price 0, with further lids where it has more than four rows."""
    if len(rows) <= 4:
        return Stage(0, [(weight, End(number)) for number, weight in rows])
    parts = [rows[:4], rows[4:]]
    weights = [sum(weight for number, weight in part) for part in parts]
    return Stage(0, [(weight, as_box(part)) for weight, part in zip(weights, parts)])


def mean_of_talks(boxes_text, pattern_text):
    """The mean, over all that may come, of what is had at a desk that is told whatever it tells is next."""
    def went_on(rows, stands, part):
        desk = Desk()
        for row in rows:
            desk.say(row)
        told_next = desk.say("next").split(" ")
        if told_next[0] == "stop":
            words = desk.say("stop").split(" ")
            if words[2:] != ["left", "0", "missed", "0"]:
                raise AssertionError(words)
            return part * int(words[1])
        if told_next[0] == "take":
            return went_on(rows + [" ".join(told_next)], stands, part)
        box = int(told_next[1])
        found = Fraction(0)
        for row in range(len(stands[box].rows)):
            later = stands[:box] + [stands[box].after(row)] + stands[box + 1:]
            share = part * Fraction(*stands[box].row_share(row))
            found += went_on(rows + [f"open {box} {row}"], later, share)
        return found

    first = ["boxes " + boxes_text, "pattern " + pattern_text]
    return went_on(first, read_boxes(boxes_text), Fraction(1))


class PromiseOfReserves(ExactTest):
    def test_what_opening_brings_above_the_reserve_is_its_price(self):
        source = random.Random(151)
        for stand in drawn_stands(source, 40):
            if not stand.is_end():
                level = stand.reserve()
                brings = sum(Fraction(*stand.row_share(row)) * Fraction(*above(stand.after(row).caps(), level))
                             for row in range(len(stand.rows)))
                self.assertEqual(brings, stand.price)

    def test_beside_any_level(self):
        source = random.Random(152)
        for stand in drawn_stands(source, 40):
            level = level_of(source)
            brings = Fraction(*above(stand.caps(), told(level)))
            self.assert_fraction(stand.beside(told(level)), level + brings)


class FromTexts(ExactTest):
    def test_from_texts_to_a_plan_that_loses_nothing(self):
        source = random.Random(153)
        for many in list(range(1, 7)) * 6:
            boxes_text = write_boxes(drawn_boxes(source, many))
            pattern_text = write_pattern(drawn_pattern(source, many))
            boxes = read_boxes(boxes_text)
            pattern = read_pattern(pattern_text)
            plan = read_plan(write_plan(plan_by_prices(boxes, pattern)))
            self.assertIsNone(check_plan(boxes, pattern, plan))
            self.assertEqual(losses(boxes, pattern, plan), [])
            self.assertEqual(lost(boxes, pattern, plan), (0, 1))
            self.assertEqual(worth(boxes, pattern, plan), best(boxes, pattern))
            desk = Desk()
            desk.say("boxes " + boxes_text)
            desk.say("pattern " + pattern_text)
            self.assertEqual(desk.say("best"), write_share(worth(boxes, pattern, plan)))

    def test_written_out(self):
        boxes = read_boxes("3[2:10 1:5[1:0 1:40]] | 7")
        plan = plan_by_prices(boxes, read_pattern("few 1"))
        self.assertEqual(write_plan(plan), "open 0 (take 0 stop, open 0 (take 1 stop, take 0 stop))")
        self.assertEqual(write_share(worth(boxes, Few(1), plan)), "59/6")

    def test_a_desk_that_is_told_what_it_tells_has_the_best(self):
        source = random.Random(154)
        for many in list(range(1, 6)) * 4:
            boxes = drawn_boxes(source, many, 40)
            pattern = drawn_pattern(source, many)
            found = mean_of_talks(write_boxes(boxes), write_pattern(pattern))
            self.assert_fraction(best(boxes, pattern), found)


class PatternsWithAFlaw(ExactTest):
    def test_choosing_comes_short_by_the_short_worths(self):
        short = 0
        for chance in range(128):
            pattern = Listed([0] + [kept for kept in range(1, 8) if chance >> (kept - 1) & 1])
            found = flaw(pattern, 3)
            if found is None:
                self.assertIsNone(need_pattern(pattern, 3))
                continue
            error = self.assert_refused(NoPattern, best, [End(1)] * 3, pattern)
            self.assertEqual((error.one, error.other), found[1:])
            if found[0] == "more":
                short += 1
                numbers = short_worths(found[1], found[2], 3)
                boxes = chosen(pattern, [whole(number) for number in numbers])
                self.assertLess(sum(numbers[box] for box in boxes),
                                max(sum(numbers[box] for box in range(3) if kept >> box & 1)
                                    for kept in sets_among(pattern, 3)))
        self.assertEqual(short, 3)


class PromiseOfOffers(ExactTest):
    def drawn(self, seed, many_times, most=5):
        source = random.Random(seed)
        for many in list(range(1, most + 1)) * many_times:
            yield source, [[(source.randrange(20), source.randrange(1, 6)) for row in range(source.randrange(1, 9))]
                           for offer in range(many)]

    def test_half_of_the_mean_of_the_greatest(self):
        for source, lists in self.drawn(156, 8):
            offers = Offers(lists)
            level = offers.half()
            half = Fraction(*offers.top_mean()) / 2
            self.assertGreaterEqual(Fraction(*offers.least_taken(level)), half)
            orders = itertools.islice(itertools.permutations(range(len(lists))), 24)
            for order in orders:
                self.assertGreaterEqual(Fraction(*offers.first_taken(list(order), level)), half)
            self.assertGreaterEqual(Fraction(*offers.worths_on()[0]), half)

    def test_offers_as_boxes_of_price_nought(self):
        for source, lists in self.drawn(157, 6, 6):
            offers = Offers(lists)
            boxes = [as_box(rows) for rows in lists]
            self.assertEqual([box.caps() for box in boxes], offers.tables())
            self.assertEqual(best(boxes, Few(1)), offers.top_mean())
            self.assertEqual(mean(greatest(offers.tables())), offers.top_mean())
            # Who sees one after the other, and has them gone, has no more than who opens all and keeps the best.
            self.assertLessEqual(Fraction(*offers.worths_on()[0]), Fraction(*best(boxes, Few(1))))
            for box, table in zip(boxes, offers.tables()):
                self.assertEqual(box.reserve(), table[-1][0])

    def test_nearly_twice_as_much(self):
        for many in (2, 10, 1000):
            offers = Offers(near_half(many))
            boxes = [as_box(rows) for rows in near_half(many)]
            self.assertEqual(offers.worths_on()[0], (1, 1))
            self.assert_fraction(best(boxes, Few(1)), 2 - Fraction(1, many))

    def test_ranks(self):
        source = random.Random(158)
        for many in (1, 2, 7, 30, 60):
            most = Fraction(*rank_worths(many)[0])
            self.assert_fraction(first_better(many, best_gone(many)), most)
            for one in range(10):
                places = [place for place in range(1, many + 1) if source.random() < 0.5]
                lack = sum(Fraction(*reached) * Fraction(*loss) for reached, loss in rank_losses(many, places))
                self.assert_fraction(share_by(many, places), most - lack)
                self.assertGreaterEqual(lack, 0)


class PromiseOfPlans(ExactTest):
    def test_no_plan_has_more_and_the_plan_by_prices_has_just_that(self):
        source = random.Random(91)
        for many in [1, 2, 3] * 8:
            boxes = drawn_boxes(source, many, 30)
            pattern = drawn_pattern(source, many)
            most = most_of(boxes, pattern)
            self.assert_fraction(best(boxes, pattern), most)
            stands = tuple(box.told() for box in boxes)
            self.assertEqual(known_worth(stands, plan_by_prices(boxes, pattern).told()), most)

    def test_what_is_had_and_lost_comes_to_the_best(self):
        for source, boxes, pattern, plan in drawn(92, 6):
            rows = ledger(boxes, pattern, plan)
            self.assertTrue(adds_up(best(boxes, pattern), rows))
            loss = Fraction(*lost(boxes, pattern, plan))
            self.assert_fraction(best(boxes, pattern), Fraction(*worth(boxes, pattern, plan)) + loss)
            self.assertEqual(loss == 0, losses(boxes, pattern, plan) == [])


class Multiplied(ExactTest):
    def test_reserves_and_caps(self):
        for source, boxes, pattern, plan in drawn(93, 5):
            factor = whole(source.choice((1, 2, 7, 1000)))
            for box in boxes:
                more = multiplied(box, factor[0])
                self.assertEqual(more.reserve(), times(factor, box.reserve()))
                self.assertEqual(more.caps(), [(times(factor, cap), weight) for cap, weight in box.caps()])
                self.assertEqual([row[2] for row in more.ways()], [times(factor, row[2]) for row in box.ways()])

    def test_bests_worths_and_losses(self):
        for source, boxes, pattern, plan in drawn(94, 8):
            factor = whole(source.choice((1, 3, 10, 999)))
            more = [multiplied(box, factor[0]) for box in boxes]
            self.assertEqual(best(more, pattern), times(factor, best(boxes, pattern)))
            self.assertEqual(worth(more, pattern, plan), times(factor, worth(boxes, pattern, plan)))
            self.assertEqual(lost(more, pattern, plan), times(factor, lost(boxes, pattern, plan)))
            self.assertEqual(losses(more, pattern, plan), [
                (way, times(factor, left), times(factor, missed))
                for way, left, missed in losses(boxes, pattern, plan)])
            self.assertEqual(ledger(more, pattern, plan), [
                (way, part, had * factor[0], times(factor, left), times(factor, missed))
                for way, part, had, left, missed in ledger(boxes, pattern, plan)])
            self.assertEqual(plan_by_prices(more, pattern).told(), plan_by_prices(boxes, pattern).told())

    def test_up_to_the_bounds(self):
        boxes = [Stage(3, [(2, End(10)), (1, Stage(5, [(1, End(0)), (1, End(40))]))]), End(7)]
        factor = TOP_WORTH // 40
        more = [multiplied(box, factor) for box in boxes]
        self.assertEqual(best(boxes, Few(1)), (59, 6))
        self.assert_fraction(best(more, Few(1)), Fraction(59, 6) * factor)


class Bettered(ExactTest):
    def assert_no_less(self, more, less):
        self.assertGreaterEqual(Fraction(*more), Fraction(*less))

    def test_a_worth_raised(self):
        for source, boxes, pattern, plan in drawn(95, 8):
            box = source.randrange(len(boxes))
            raised = list(boxes)
            raised[box] = self.with_one_changed(source, boxes[box], "end", source.choice((1, 5, 500)))
            self.assert_no_less(best(raised, pattern), best(boxes, pattern))

    def test_a_price_lowered(self):
        for source, boxes, pattern, plan in drawn(96, 8):
            box = source.randrange(len(boxes))
            lowered = list(boxes)
            lowered[box] = self.with_one_changed(source, boxes[box], "stage", -source.choice((1, 2, 500)))
            self.assert_no_less(best(lowered, pattern), best(boxes, pattern))

    def with_one_changed(self, source, stand, kind, more):
        """The stand with the number of one of its ends, or of its stages, changed, but never below 0."""
        def numbers(one):
            own = [] if (kind == "end") != one.is_end() else [()]
            if not one.is_end():
                own += [(row,) + way for row, (weight, after) in enumerate(one.rows) for way in numbers(after)]
            return own

        def rebuilt(one, way):
            if way == ():
                if one.is_end():
                    return End(max(0, one.worth + more))
                return Stage(max(0, one.price + more), list(one.rows))
            rows = list(one.rows)
            rows[way[0]] = (rows[way[0]][0], rebuilt(rows[way[0]][1], way[1:]))
            return Stage(one.price, rows)

        ways = numbers(stand)
        return rebuilt(stand, source.choice(ways)) if ways else stand

    def test_all_worths_raised_and_all_prices_lowered(self):
        for source, boxes, pattern, plan in drawn(97, 4):
            raised = [changed(box, lambda number: number + source.randrange(3), lambda number: number) for box in boxes]
            lowered = [changed(box, lambda number: number, lambda number: number // 2) for box in boxes]
            self.assert_no_less(best(raised, pattern), best(boxes, pattern))
            self.assert_no_less(best(lowered, pattern), best(boxes, pattern))
            self.assert_no_less(best([changed(box, lambda number: number, lambda number: 0) for box in boxes], pattern),
                                best(lowered, pattern))

    def test_a_pattern_that_lets_more_be_kept(self):
        for source, boxes, pattern, plan in drawn(98, 6):
            many = len(boxes)
            bests = [best(boxes, Few(count)) for count in range(7)]
            for less, more in zip(bests, bests[1:]):
                self.assert_no_less(more, less)
            sets = sets_among(pattern, many)
            count = source.randrange(3)
            fewer = Listed([kept for kept in sets if bin(kept).count("1") <= count])
            self.assert_no_less(best(boxes, pattern), best(boxes, fewer))
            self.assert_no_less(best(boxes, Few(6)), best(boxes, pattern))
            self.assert_no_less(best(boxes, pattern), best(boxes, Few(0)))

    def test_groups_that_let_more_be_kept(self):
        for source, boxes, pattern, plan in drawn(99, 4):
            groups = [source.randrange(2) for box in boxes]
            bests = [best(boxes, Groups(groups, [count, 1, 0, 0, 0, 0])) for count in range(5)]
            for less, more in zip(bests, bests[1:]):
                self.assert_no_less(more, less)


class Exchanged(ExactTest):
    def test_all_that_is_told(self):
        for source, boxes, pattern, plan in drawn(100, 8):
            many = len(boxes)
            places = source.sample(range(many), many)
            others = [boxes[places.index(place)] for place in range(many)]
            mirrored = Listed([exchanged_set(kept, places) for kept in sets_among(pattern, many)])
            turned = exchanged_plan(plan, places)
            self.assertEqual(best(others, mirrored), best(boxes, pattern))
            self.assertEqual(worth(others, mirrored, turned), worth(boxes, pattern, plan))
            self.assertEqual(ledger(others, mirrored, turned), ledger(boxes, pattern, plan))
            self.assertEqual(losses(others, mirrored, turned), losses(boxes, pattern, plan))
            self.assertEqual(worth(others, mirrored, plan_by_prices(others, mirrored)), best(boxes, pattern))

    def test_the_deed_by_prices(self):
        for source, boxes, pattern, plan in drawn(101, 6):
            many = len(boxes)
            case = Case(boxes)
            places = source.sample(range(many), many)
            others = Case([boxes[places.index(place)] for place in range(many)])
            mirrored = Listed([exchanged_set(kept, places) for kept in sets_among(pattern, many)])
            for step in range(source.randrange(4)):
                choice = next_deeds(case)
                if choice:
                    one = source.choice(choice)
                    case = behind(case, one)
                    others = behind(others, (one[0], places[one[1]]) + one[2:])
            self.assertEqual(best_from(mirrored, others), best_from(pattern, case))
            reserves = [case.stand(box).reserve() for box in range(many)]
            if len(set(reserves)) == many:
                found = deed(pattern, case)
                self.assertEqual(deed(mirrored, others), found if found == ("stop",) else (found[0], places[found[1]]))

    def test_of_equal_ones_the_least_number_goes_first(self):
        boxes = [doc_stand(), End(12)]
        self.assertEqual(deed(Few(1), Case(boxes)), ("open", 0))
        self.assertEqual(deed(Few(1), Case(boxes[::-1])), ("take", 0))


if __name__ == "__main__":
    main()
