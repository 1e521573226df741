import copy
import random
from fractions import Fraction
from unittest import main

from lidprice.best import best, best_from, plan_by_prices
from lidprice.cases import Case
from lidprice.errors import NoBox, NoPattern, NoPlan, NoSets, TooMany
from lidprice.ledger import adds_up, ledger, losses, lost
from lidprice.patterns import Few, Groups, Listed
from lidprice.plans import Open, Stop, Take, ends_of, leaves, worth
from lidprice.stands import End, Stage
from tests.helper import (TOP_WORTH, ExactTest, all_plans, best_of, chain, doc_stand, drawn_boxes, drawn_pattern,
                          drawn_plan, known_best, known_cap, known_caps, known_leaves, known_reserve, known_worth,
                          objects, plain_things, sets_among, told, wrong_things)

ASKS = (ledger, losses, lost)


def coin(price=1, low=0, high=8):
    return Stage(price, [(1, End(low)), (1, End(high))])


def wide():
    """A stand of twelve ends."""
    return Stage(1, [(1, Stage(0, [(1, End(5 * row + inner)) for inner in range(3)])) for row in range(4)])


def known_rows(boxes, pattern, plan):
    """The rows of a ledger, from boxes and plan told in full, by other ways than the program's."""
    stands = tuple(box.told() for box in boxes)
    sets = sets_among(pattern, len(boxes))
    rows = []
    for opened, (way, part, kept, had) in zip(opens_of(stands, plan.told()), known_leaves(stands, plan.told())):
        tables = []
        left = Fraction(0)
        caps_kept = Fraction(0)
        for box, top in enumerate(stands):
            cap, present = passed(top, opened[box])
            caps = known_caps(present)
            tables.append([(own if cap is None else min(own, cap), share) for own, share in caps])
            if box in kept:
                caps_kept += known_cap(top, opened[box])
            elif cap is not None:
                left += sum(share * max(own - cap, 0) for own, share in caps)
        rows.append((way, part, had, left, known_best(tables, sets) - caps_kept))
    return rows


def opens_of(stands, plan, opened=None):
    """For each leaf, the rows that came in each box."""
    opened = opened or tuple(() for stand in stands)
    if plan[0] == "stop":
        return [opened]
    box = plan[1]
    if plan[0] == "take":
        return opens_of(stands, plan[2], opened)
    found = []
    for row, then in enumerate(plan[2]):
        found += opens_of(stands, then, opened[:box] + (opened[box] + (row,),) + opened[box + 1:])
    return found


def passed(stand, rows):
    """The least reserve on the way, or None, and the stand to which it leads."""
    reserves = []
    for row in rows:
        reserves.append(known_reserve(stand))
        stand = stand[2][row][1]
    return min(reserves, default=None), stand


class LedgerTest(ExactTest):
    def assert_known(self, boxes, pattern, plan):
        wanted = known_rows(boxes, pattern, plan)
        rows = ledger(boxes, pattern, plan)
        self.assertIs(type(rows), list)
        self.assertEqual(len(rows), len(wanted))
        for row, (way, part, had, left, missed) in zip(rows, wanted):
            self.assertEqual((type(row), len(row)), (tuple, 5))
            self.assertIs(type(row[0]), tuple)
            self.assertEqual([type(number) for number in row[0]], [int] * len(way))
            self.assertEqual(row[0], way)
            self.assert_fraction(row[1], part)
            self.assert_whole(row[2], had)
            self.assert_fraction(row[3], left)
            self.assert_fraction(row[4], missed)
        self.assert_losses(boxes, pattern, plan, wanted)

    def assert_losses(self, boxes, pattern, plan, rows):
        for way, part, had, left, missed in rows:
            self.assertGreaterEqual(left, 0)
            self.assertGreaterEqual(missed, 0)
        most = sum(part * (had + left + missed) for way, part, had, left, missed in rows)
        self.assertEqual(most, best_of(boxes, pattern))
        found = losses(boxes, pattern, plan)
        self.assertIs(type(found), list)
        self.assertEqual([type(row) for row in found], [tuple] * len(found))
        self.assertEqual(found, [(way, told(left), told(missed)) for way, part, had, left, missed in rows
                                 if left > 0 or missed > 0])
        loss = sum(part * (left + missed) for way, part, had, left, missed in rows)
        self.assert_fraction(lost(boxes, pattern, plan), loss)
        stands = tuple(box.told() for box in boxes)
        self.assertEqual(loss, most - known_worth(stands, plan.told()))
        self.assertTrue(adds_up(told(most), ledger(boxes, pattern, plan)))


class Rows(LedgerTest):
    def test_a_stop_at_once(self):
        boxes = [doc_stand(), End(7)]
        # The caps 0, 10 and 12 of the first box have the shares 1/6, 4/6 and 1/6.
        self.assertEqual(ledger(boxes, Few(1), Stop()), [((), (1, 1), 0, (0, 1), (59, 6))])
        self.assertEqual(losses(boxes, Few(1), Stop()), [((), (0, 1), (59, 6))])
        self.assertEqual(lost(boxes, Few(1), Stop()), (59, 6))
        self.assert_known(boxes, Few(1), Stop())

    def test_takes(self):
        boxes = [End(3), End(5)]
        self.assertEqual(ledger(boxes, Few(1), Take(0, Stop())), [((), (1, 1), 3, (0, 1), (2, 1))])
        self.assertEqual(ledger(boxes, Few(1), Take(1, Stop())), [((), (1, 1), 5, (0, 1), (0, 1))])
        self.assertEqual(losses(boxes, Few(1), Take(1, Stop())), [])
        self.assertEqual(lost(boxes, Few(1), Take(1, Stop())), (0, 1))
        self.assertEqual(ledger(boxes, Few(2), Take(1, Stop())), [((), (1, 1), 5, (0, 1), (3, 1))])

    def test_what_is_left(self):
        # The coin's reserve is 6; who finds 8 and lets it stand leaves 2, and misses 6.
        plan = Open(0, [Stop(), Stop()])
        self.assertEqual(ledger([coin()], Few(1), plan), [
            ((0,), (1, 2), -1, (0, 1), (0, 1)), ((1,), (1, 2), -1, (2, 1), (6, 1))])
        self.assertEqual(losses([coin()], Few(1), plan), [((1,), (2, 1), (6, 1))])
        self.assertEqual(lost([coin()], Few(1), plan), (4, 1))

    def test_left_alone_and_missed_alone(self):
        plan = Open(0, [Take(1, Stop()), Take(1, Stop())])
        self.assertEqual(ledger([coin(), End(6)], Few(1), plan), [
            ((0,), (1, 2), 5, (0, 1), (0, 1)), ((1,), (1, 2), 5, (2, 1), (0, 1))])
        self.assertEqual(losses([coin(), End(6)], Few(1), plan), [((1,), (2, 1), (0, 1))])
        plan = Open(0, [Take(0, Stop()), Take(0, Stop())])
        self.assertEqual(ledger([coin(), End(5)], Few(1), plan), [
            ((0,), (1, 2), -1, (0, 1), (5, 1)), ((1,), (1, 2), 7, (0, 1), (0, 1))])
        self.assertEqual(losses([coin(), End(5)], Few(1), plan), [((0,), (0, 1), (5, 1))])

    def test_stages_in_turn(self):
        boxes = [doc_stand(), End(7)]
        plan = Open(0, [Take(0, Stop()), Take(1, Stop())])
        self.assertEqual(ledger(boxes, Few(1), plan), [
            ((0,), (2, 3), 7, (0, 1), (0, 1)), ((1,), (1, 3), 4, (9, 1), (5, 2))])
        self.assertEqual(losses(boxes, Few(1), plan), [((1,), (9, 1), (5, 2))])
        self.assertEqual(lost(boxes, Few(1), plan), (23, 6))
        self.assert_known(boxes, Few(1), plan)

    def test_boxes_below_nought(self):
        dear = coin(5)
        self.assertEqual(dear.reserve(), (-1, 1))
        plan = Open(0, [Stop(), Take(0, Stop())])
        # Opening is a loss itself: 1 is left where nothing is kept, and the cap that is kept is -1.
        self.assertEqual(ledger([dear], Few(1), plan), [
            ((0,), (1, 2), -5, (1, 1), (0, 1)), ((1,), (1, 2), 3, (0, 1), (1, 1))])
        self.assertEqual(lost([dear], Few(1), plan), (1, 1))
        self.assert_known([dear], Few(1), plan)

    def test_several_kept(self):
        boxes = [coin(), coin(2, 3, 9), End(4)]
        plan = Open(1, [Take(2, Open(0, [Stop(), Take(0, Stop())])), Take(1, Take(2, Stop()))])
        for pattern in (Few(2), Few(3), Groups([0, 1, 2], [1] * 6), Listed([0, 1, 2, 4, 3, 5, 6])):
            self.assert_known(boxes, pattern, plan)

    def test_drawn_plans(self):
        source = random.Random(81)
        for many in list(range(1, 7)) * 14:
            boxes = drawn_boxes(source, many, 100)
            pattern = drawn_pattern(source, many)
            plan = drawn_plan(source, Case(boxes), pattern, source.choice((0, 0.1, 0.3)))
            self.assert_known(boxes, pattern, plan)

    def test_300_unfoldings(self):
        source = random.Random(82)
        boxes = [wide(), Stage(2, [(1, coin()), (2, coin(0, 3, 5)), (1, End(4))]), Stage(1, [(1, wide().after(1)),
                 (3, coin(1, 2, 9))])]
        for pattern in (Few(1), Few(2), Groups([0, 0, 1], [1, 1, 0, 0, 0, 0])):
            self.assert_known(boxes, pattern, drawn_plan(source, Case(boxes), pattern, 0.02))

    def test_all_plans_of_small_boxes(self):
        tiny = [
            ([coin()], Few(1)), ([doc_stand()], Few(1)), ([coin(), coin(2, 3, 9)], Few(1)), ([coin(5), End(2)], Few(1)),
            ([coin(1, 2, 6), End(3)], Few(2)), ([coin(), End(4), End(3)], Listed([0, 1, 2, 3, 4, 5])),
        ]
        for boxes, pattern in tiny:
            for plan in all_plans(Case(boxes), pattern):
                self.assert_known(boxes, pattern, plan)

    def test_it_goes_with_leaves_cases_and_the_best_from_them(self):
        source = random.Random(83)
        for many in (1, 2, 3, 4, 5, 6) * 4:
            boxes = drawn_boxes(source, many)
            pattern = drawn_pattern(source, many)
            plan = drawn_plan(source, Case(boxes), pattern)
            rows = ledger(boxes, pattern, plan)
            self.assertEqual([(row[0], row[1], row[2]) for row in rows],
                             [(row[0], row[1], row[3]) for row in leaves(boxes, pattern, plan)])
            for row, (part, case) in zip(rows, ends_of(boxes, pattern, plan)):
                self.assertEqual(row[3], case.left())
                caps = sum(Fraction(*case.caps(box)[0][0]) for box in case.kept())
                self.assert_fraction(row[4], Fraction(*best_from(pattern, case)) - caps)


class FarAbove300(LedgerTest):
    def test_with_one_kept(self):
        boxes = [wide(), coin(), wide(), coin(2, 3, 9), wide(), End(17)]
        plan = Open(0, [Stop(), Open(1, [Take(5, Stop()), Take(1, Stop())]),
                        Open(0, [Take(0, Stop()), Stop(), Take(0, Stop())]), Take(5, Stop())])
        rows = ledger(boxes, Few(1), plan)
        self.assertEqual([row[0] for row in rows], [(0,), (1, 0), (1, 1), (2, 0), (2, 1), (2, 2), (3,)])
        self.assertTrue(adds_up(best(boxes, Few(1)), rows))
        for way, part, had, left, missed in rows:
            self.assertGreaterEqual(left[0], 0)
            self.assertGreaterEqual(missed[0], 0)
        self.assert_fraction(lost(boxes, Few(1), plan),
                             Fraction(*best(boxes, Few(1))) - Fraction(*worth(boxes, Few(1), plan)))

    def test_many_leaves(self):
        boxes = [wide()] * 6
        plan = self.both_lids(5)
        rows = ledger(boxes, Few(1), plan)
        self.assertEqual(len(rows), 12 ** 3)
        self.assertTrue(adds_up(best(boxes, Few(1)), rows))

    def both_lids(self, box):
        """A plan that opens three of the boxes wholly, and keeps the last one."""
        then = Take(5, Stop()) if box == 3 else self.both_lids(box - 1)
        return Open(box, [Open(box, [then] * 3)] * 4)


class Losses(LedgerTest):
    def test_the_plan_by_prices_has_none(self):
        source = random.Random(84)
        for many in list(range(1, 7)) * 15:
            boxes = drawn_boxes(source, many)
            pattern = drawn_pattern(source, many)
            plan = plan_by_prices(boxes, pattern)
            self.assertEqual(losses(boxes, pattern, plan), [])
            self.assertEqual(lost(boxes, pattern, plan), (0, 1))
            rows = ledger(boxes, pattern, plan)
            self.assertEqual([row[3:] for row in rows], [((0, 1), (0, 1))] * len(rows))

    def test_worse_ones(self):
        boxes = [doc_stand(), coin(), End(2)]
        source = random.Random(85)
        worse = 0
        for one in range(60):
            plan = drawn_plan(source, Case(boxes), Few(2), 0.1)
            lack = Fraction(*best(boxes, Few(2))) - Fraction(*worth(boxes, Few(2), plan))
            self.assert_fraction(lost(boxes, Few(2), plan), lack)
            self.assertEqual(losses(boxes, Few(2), plan) == [], lack == 0)
            worse += lack > 0
        self.assertGreater(worse, 40)

    def test_other_plans_without_losses(self):
        # Of equal reserves whichever goes first, nothing is lost.
        boxes = [coin(), coin()]
        plan = Open(1, [Open(0, [Stop(), Take(0, Stop())]), Take(1, Stop())])
        self.assertEqual(losses(boxes, Few(1), plan), [])
        self.assertEqual(worth(boxes, Few(1), plan), best(boxes, Few(1)))
        self.assertEqual(losses([End(0)], Few(1), Stop()), [])
        self.assertEqual(losses([coin(4)], Few(1), Open(0, [Stop(), Take(0, Stop())])), [])

    def test_their_order(self):
        boxes = [Stage(0, [(1, End(3)), (1, End(1)), (1, End(0)), (1, End(2))])]
        plan = Open(0, [Stop()] * 4)
        self.assertEqual(losses(boxes, Few(1), plan), [
            ((0,), (0, 1), (3, 1)), ((1,), (0, 1), (1, 1)), ((3,), (0, 1), (2, 1))])


class AddsUp(ExactTest):
    def rows(self):
        return [((0,), (2, 3), 7, (0, 1), (0, 1)), ((1,), (1, 3), 4, (9, 1), (5, 2))]

    def test_rows_of_a_ledger(self):
        self.assertIs(adds_up((59, 6), self.rows()), True)
        for boxes, plan in (([doc_stand(), End(7)], Stop()), ([coin(5)], Open(0, [Stop()] * 2))):
            self.assertIs(adds_up(best(boxes, Few(1)), ledger(boxes, Few(1), plan)), True)

    def test_another_worth(self):
        for worth_of_rows in ((0, 1), (59, 7), (58, 6), (-59, 6), (10, 1), (59 * 10 ** 30 + 1, 6 * 10 ** 30)):
            self.assertIs(adds_up(worth_of_rows, self.rows()), False)

    def test_no_rows(self):
        self.assertIs(adds_up((0, 1), []), False)
        self.assertIs(adds_up((1, 1), []), False)

    def test_shares_that_are_not_1_together(self):
        rows = self.rows()
        self.assertIs(adds_up((14, 3), rows[:1]), False)
        self.assertIs(adds_up((31, 6), rows[1:]), False)
        self.assertIs(adds_up((71, 6), rows + [((2,), (1, 1), 2, (0, 1), (0, 1))]), False)
        self.assertIs(adds_up((14, 1), [((), (2, 1), 7, (0, 1), (0, 1))]), False)

    def test_a_share_of_nought_or_below(self):
        for part in ((0, 1), (-1, 3), (-1, 1)):
            rest = told(1 - Fraction(*part))
            rows = [((0,), part, 6, (1, 1), (0, 1)), ((1,), rest, 3, (2, 1), (2, 1))]
            self.assertIs(adds_up((7, 1), rows), False)
            self.assertIs(adds_up((7, 1), rows[::-1]), False)
        rows = [((0,), (1, 1), 6, (1, 1), (0, 1)), ((1,), (0, 1), 3, (2, 1), (2, 1))]
        self.assertIs(adds_up((7, 1), rows), False)
        self.assertIs(adds_up((7, 1), rows[:1]), True)

    def test_left_or_missed_below_nought(self):
        self.assertIs(adds_up((7, 1), [((), (1, 1), 8, (-1, 1), (0, 1))]), False)
        self.assertIs(adds_up((7, 1), [((), (1, 1), 8, (0, 1), (-1, 1))]), False)
        self.assertIs(adds_up((7, 1), [((), (1, 1), 7, (1, 2), (-1, 2))]), False)
        self.assertIs(adds_up((7, 1), [((0,), (1, 2), 7, (0, 1), (0, 1)), ((1,), (1, 2), 8, (-1, 1), (0, 1))]), False)
        self.assertIs(adds_up((7, 1), [((), (1, 1), 7, (0, 1), (0, 1))]), True)

    def test_worths_below_nought(self):
        self.assertIs(adds_up((-5, 2), [((0,), (1, 2), -5, (0, 1), (1, 2)), ((1,), (1, 2), -1, (1, 2), (0, 1))]), True)
        self.assertIs(adds_up((-5, 2), [((0,), (1, 2), -5, (0, 1), (1, 2)), ((1,), (1, 2), -1, (0, 1), (0, 1))]), False)

    def test_rows_made_from_whatever(self):
        source = random.Random(86)
        for many in range(1, 9):
            weights = [source.randrange(1, 10 ** 9) for row in range(many)]
            rows = [((source.randrange(4),) * row, told(Fraction(weight, sum(weights))), source.randrange(-99, 99),
                     told(Fraction(source.randrange(9), 7)), told(Fraction(source.randrange(9), 11)))
                    for row, weight in enumerate(weights)]
            mean = sum(Fraction(*part) * (had + Fraction(*left) + Fraction(*missed))
                       for way, part, had, left, missed in rows)
            self.assertIs(adds_up(told(mean), rows), True)
            self.assertIs(adds_up(told(mean + Fraction(1, 10 ** 80)), rows), False)

    def test_what_is_handed_in_stays(self):
        rows = self.rows()
        before = copy.deepcopy(rows)
        adds_up((59, 6), rows)
        self.assertEqual(rows, before)
        rows.clear()
        self.assertIs(adds_up((59, 6), self.rows()), True)


class Own(LedgerTest):
    def test_lists_told_may_be_changed(self):
        boxes = [doc_stand(), End(7)]
        plan = Open(0, [Take(0, Stop()), Take(1, Stop())])
        for ask in (ledger, losses):
            wanted = copy.deepcopy(ask(boxes, Few(1), plan))
            found = ask(boxes, Few(1), plan)
            found[0] = None
            found.clear()
            self.assertEqual(ask(boxes, Few(1), plan), wanted)

    def test_what_is_handed_in_stays(self):
        boxes = [doc_stand(), End(7)]
        given = list(boxes)
        plan = Open(0, [Take(0, Stop()), Take(1, Stop())])
        before = (plan.told(), [box.told() for box in boxes])
        for ask in ASKS:
            wanted = ask(boxes, Few(1), plan)
            self.assertEqual(ask(boxes, Few(1), plan), wanted)
        self.assertEqual(boxes, given)
        self.assertEqual((plan.told(), [box.told() for box in boxes]), before)


class OrderOfRefusals(LedgerTest):
    def wrong_patterns(self):
        return plain_things() + [thing for thing in objects() if not isinstance(thing, (Few, Groups, Listed))]

    def test_no_box_goes_first(self):
        for thing in wrong_things() + [0, [], [End(1)] * 7, [End(1), None], [wide()] * 7]:
            with self.subTest(type(thing).__name__):
                for ask in ASKS:
                    self.assert_refused(NoBox, ask, thing, Few(1), Stop())
                    self.assert_refused(NoBox, ask, thing, None, None)
                    self.assert_refused(NoBox, ask, thing, Listed([1]), None)

    def test_then_no_sets(self):
        for thing in self.wrong_patterns() + [0, 1, ("few", 1), "few 1"]:
            with self.subTest(type(thing).__name__):
                for ask in ASKS:
                    self.assert_refused(NoSets, ask, [coin()], thing, Stop())
                    self.assert_refused(NoSets, ask, [wide()] * 6, thing, None)

    def test_then_no_pattern(self):
        for sets, one, other in (([1], 0, 0), ([0, 3, 1], 3, 2), ([0, 1, 2, 4, 3], 3, 4)):
            for ask in ASKS:
                for boxes in ([coin()] * 3, [wide()] * 3):
                    error = self.assert_refused(NoPattern, ask, boxes, Listed(sets), None)
                    self.assertEqual((error.one, error.other), (one, other))

    def test_then_no_plan(self):
        for ask in ASKS:
            for boxes in ([wide()] * 6, [coin()] * 6):
                many = len(boxes[0].rows)
                for thing in plain_things() + [("stop",)]:
                    error = self.assert_refused(NoPlan, ask, boxes, Few(6), thing)
                    self.assertEqual(error.way, ())
                    plan = Open(5, [Stop()] * (many - 1) + [Take(thing, Stop())])
                    error = self.assert_refused(NoPlan, ask, boxes, Few(6), plan)
                    self.assertEqual(error.way, (many - 1,))

    def test_too_many_goes_last(self):
        for boxes, many in (([wide()] * 6, 12 ** 6), ([wide(), wide(), coin(), coin()], 576)):
            for ask in ASKS:
                for pattern in (Few(2), Listed([0, 1, 2, 3])):
                    for plan in (Stop(), Open(0, [Stop()] * 4)):
                        error = self.assert_refused(TooMany, ask, boxes, pattern, plan)
                        self.assert_whole(error.many, many)
                self.assertIsNotNone(ask(boxes, Few(1), Stop()))
                self.assertIsNotNone(ask(boxes, Listed([0, 1, 2]), Stop()))

    def test_all_boxes_count_for_too_many(self):
        # Also where what is left to unfold at each leaf would be few enough.
        boxes = [wide(), wide(), Stage(1, [(1, End(1)), (1, End(2)), (1, End(3))])]
        for ask in ASKS:
            error = self.assert_refused(TooMany, ask, boxes, Few(2), Open(2, [Stop()] * 3))
            self.assertEqual(error.many, 432)

    def test_top_numbers(self):
        boxes = [Stage(TOP_WORTH, [(1000, End(TOP_WORTH)), (999, chain(3, TOP_WORTH, TOP_WORTH))]), End(TOP_WORTH)]
        self.assert_known(boxes, Few(2), Open(0, [Take(0, Take(1, Stop())), Open(0, [Stop()])]))


if __name__ == "__main__":
    main()
