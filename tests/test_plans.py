import copy
import random
from fractions import Fraction
from unittest import main

from lidprice.cases import Case
from lidprice.errors import NoBox, NoPattern, NoPlan, NoSets
from lidprice.patterns import Few, Groups, Listed
from lidprice.plans import Open, Plan, Stop, Take, check_plan, ends_of, leaves, worth
from lidprice.stands import End, Stage
from tests.helper import (TOP_WORTH, ExactTest, behind, chain, doc_stand, drawn_boxes, drawn_pattern, drawn_plan,
                          known_leaves, known_worth, objects, plain_things, wrong_things)

ASKS = (check_plan, leaves, ends_of, worth)


def coin(price=1, low=0, high=8):
    return Stage(price, [(1, End(low)), (1, End(high))])


def chain_plan(opens, then):
    """A plan that opens, one after another, stages of one row each."""
    for box in reversed(opens):
        then = Open(box, [then])
    return then


class PlansTest(ExactTest):
    def assert_no_plan(self, way, boxes, pattern, plan):
        for ask in ASKS:
            error = self.assert_refused(NoPlan, ask, boxes, pattern, plan)
            self.assertIs(type(error.way), tuple)
            self.assertEqual([type(row) for row in error.way], [int] * len(way))
            self.assertEqual(error.way, way)

    def assert_known(self, boxes, pattern, plan):
        stands = tuple(box.told() for box in boxes)
        wanted = known_leaves(stands, plan.told())
        self.assertIsNone(check_plan(boxes, pattern, plan))
        found = leaves(boxes, pattern, plan)
        self.assertIs(type(found), list)
        self.assertEqual(len(found), len(wanted))
        for one, other in zip(found, wanted):
            self.assertIs(type(one), tuple)
            way, part, kept, had = one
            self.assertEqual((type(way), type(kept)), (tuple, tuple))
            self.assertEqual([type(number) for number in way + kept], [int] * len(way + kept))
            self.assertEqual((way, kept), (other[0], other[2]))
            self.assert_fraction(part, other[1])
            self.assert_whole(had, other[3])
        self.assertEqual(sum(Fraction(*row[1]) for row in found), 1)
        self.assert_fraction(worth(boxes, pattern, plan), known_worth(stands, plan.told()))
        self.assert_ends(boxes, ends_of(boxes, pattern, plan), found)

    def assert_ends(self, boxes, ends, rows):
        self.assertIs(type(ends), list)
        self.assertEqual(len(ends), len(rows))
        for end, (way, part, kept, had) in zip(ends, rows):
            self.assertIs(type(end), tuple)
            self.assertEqual(end[0], part)
            case = end[1]
            self.assertIs(type(case), Case)
            self.assertEqual(tuple(deed[2] for deed in case.deeds() if deed[0] == "open"), way)
            self.assertEqual((tuple(case.kept()), case.had()), (kept, had))
            again = Case(boxes)
            for deed in case.deeds():
                again = behind(again, deed)
            for box in range(len(boxes)):
                self.assertEqual(case.stand(box).told(), again.stand(box).told())
                self.assertEqual((case.cap(box), case.debt(box)), (again.cap(box), again.debt(box)))


class Knots(ExactTest):
    def test_what_they_tell(self):
        self.assertEqual(Stop().told(), ("stop",))
        self.assertEqual(Take(3, Stop()).told(), ("take", 3, ("stop",)))
        self.assertEqual(Open(2, [Stop()]).told(), ("open", 2, (("stop",),)))
        plan = Open(0, [Take(0, Stop()), Open(1, [Stop(), Take(1, Take(0, Stop()))])])
        self.assertEqual(plan.told(), (
            "open", 0, (("take", 0, ("stop",)), ("open", 1, (("stop",), ("take", 1, ("take", 0, ("stop",))))))))

    def test_kinds(self):
        for knot in (Stop(), Take(0, Stop()), Open(0, [])):
            self.assertIsInstance(knot, Plan)
        for one in (Stop, Take, Open):
            self.assertEqual(one.__bases__, (Plan,))

    def test_fields(self):
        then = Stop()
        take = Take(4, then)
        self.assertEqual(take.box, 4)
        self.assertIs(take.then, then)
        plans = [Stop(), take]
        knot = Open(5, plans)
        self.assertEqual(knot.box, 5)
        self.assertIs(type(knot.plans), tuple)
        self.assertEqual(len(knot.plans), 2)
        self.assertIs(knot.plans[0], plans[0])
        self.assertIs(knot.plans[1], take)

    def test_a_list_that_is_changed_behind(self):
        plans = [Stop(), Take(0, Stop())]
        knot = Open(0, plans)
        before = knot.told()
        plans[0] = Take(1, Stop())
        self.assertEqual(knot.told(), before)
        plans.append(Stop())
        self.assertEqual(knot.told(), before)
        plans.clear()
        self.assertEqual(knot.told(), before)
        self.assertEqual(len(knot.plans), 2)

    def test_nothing_is_refused_where_a_knot_is_made(self):
        for thing in wrong_things():
            with self.subTest(type(thing).__name__):
                take = Take(thing, thing)
                self.assertEqual((take.box, take.then), (thing, thing))
                knot = Open(thing, [thing, Stop(), thing])
                self.assertEqual(knot.box, thing)
                self.assertIs(type(knot.plans), tuple)
                self.assertEqual((knot.plans[0], knot.plans[2], len(knot.plans)), (thing, thing, 3))
        self.assertEqual(Open(0, []).plans, ())
        self.assertEqual(Open(7, [Stop()] * 9).told(), ("open", 7, (("stop",),) * 9))

    def test_what_is_told_is_told_again(self):
        then = Take(1, Stop())
        plan = Open(0, [then, then])
        self.assertEqual(plan.told(), plan.told())
        self.assertEqual(then.told(), ("take", 1, ("stop",)))

    def test_forty_knots_on_a_way(self):
        plan = Stop()
        wanted = ("stop",)
        for knot in range(39):
            plan = Take(knot, plan) if knot % 2 else Open(knot, [plan])
            wanted = ("take", knot, wanted) if knot % 2 else ("open", knot, (wanted,))
        self.assertEqual(plan.told(), wanted)


class Leaves(PlansTest):
    def test_a_stop_at_once(self):
        for boxes in ([End(3)], [coin()], [coin(), doc_stand(), End(9)], [End(0)] * 6):
            self.assertEqual(leaves(boxes, Few(1), Stop()), [((), (1, 1), (), 0)])
            self.assert_known(boxes, Few(1), Stop())
            self.assertEqual(worth(boxes, Few(1), Stop()), (0, 1))

    def test_takes(self):
        boxes = [End(3), End(5), coin()]
        self.assertEqual(leaves(boxes, Few(1), Take(1, Stop())), [((), (1, 1), (1,), 5)])
        self.assertEqual(leaves(boxes, Few(2), Take(1, Take(0, Stop()))), [((), (1, 1), (0, 1), 8)])
        self.assertEqual(worth(boxes, Few(2), Take(1, Take(0, Stop()))), (8, 1))
        self.assert_known(boxes, Few(2), Take(1, Take(0, Stop())))

    def test_an_open(self):
        plan = Open(0, [Stop(), Take(0, Stop())])
        self.assertEqual(leaves([coin()], Few(1), plan), [((0,), (1, 2), (), -1), ((1,), (1, 2), (0,), 7)])
        self.assertEqual(worth([coin()], Few(1), plan), (3, 1))
        self.assert_known([coin()], Few(1), plan)

    def test_stages_in_turn(self):
        plan = Open(0, [Take(0, Stop()), Open(0, [Stop(), Take(0, Stop())])])
        self.assertEqual(leaves([doc_stand()], Few(1), plan), [
            ((0,), (2, 3), (0,), 7), ((1, 0), (1, 6), (), -8), ((1, 1), (1, 6), (0,), 32)])
        self.assertEqual(worth([doc_stand()], Few(1), plan), (26, 3))
        self.assert_known([doc_stand()], Few(1), plan)

    def test_several_boxes_in_turn(self):
        boxes = [Stage(2, [(1, End(1)), (3, End(9))]), Stage(1, [(2, End(4)), (1, chain(1, 2, 30))]), End(6)]
        late = Open(1, [Take(2, Take(0, Stop())), Open(1, [Take(1, Take(0, Stop()))])])
        plan = Take(2, Open(0, [Open(1, [Take(1, Stop()), Stop()]), Take(0, Stop())]))
        self.assertEqual(leaves(boxes, Few(2), plan), [
            ((0, 0), (1, 6), (1, 2), 7), ((0, 1), (1, 12), (2,), 3), ((1,), (3, 4), (0, 2), 13)])
        self.assertEqual(worth(boxes, Few(2), plan), (67, 6))
        self.assert_known(boxes, Few(2), plan)
        plan = Open(0, [late, late])
        self.assertEqual(leaves(boxes, Few(2), plan), [
            ((0, 0), (1, 6), (0, 2), 4), ((0, 1, 0), (1, 12), (0, 1), 26),
            ((1, 0), (1, 2), (0, 2), 12), ((1, 1, 0), (1, 4), (0, 1), 34)])
        self.assert_known(boxes, Few(2), plan)

    def test_the_same_boxes_in_other_orders(self):
        boxes = [coin(1, 2, 6), coin(2, 1, 9)]
        both = {True: Take(1, Stop()), False: Take(0, Stop())}
        one = Open(0, [Open(1, [both[False], both[True]])] * 2)
        other = Open(1, [Open(0, [both[False]] * 2), Open(0, [both[True]] * 2)])
        self.assertEqual([row[0] for row in leaves(boxes, Few(1), one)], [(0, 0), (0, 1), (1, 0), (1, 1)])
        self.assertEqual([row[3] for row in leaves(boxes, Few(1), one)], [-1, 6, 3, 6])
        self.assertEqual([row[3] for row in leaves(boxes, Few(1), other)], [-1, 3, 6, 6])
        self.assertEqual(worth(boxes, Few(1), one), (7, 2))
        self.assertEqual(worth(boxes, Few(1), other), (7, 2))
        for plan in (one, other):
            self.assert_known(boxes, Few(1), plan)

    def test_one_stand_as_several_boxes(self):
        stand = coin()
        boxes = [stand, stand, stand]
        plan = Open(2, [Open(0, [Stop(), Take(0, Stop())]), Take(2, Open(1, [Stop(), Take(1, Stop())]))])
        self.assertEqual(leaves(boxes, Few(2), plan), [
            ((0, 0), (1, 4), (), -2), ((0, 1), (1, 4), (0,), 6), ((1, 0), (1, 4), (2,), 6),
            ((1, 1), (1, 4), (1, 2), 14)])
        self.assert_known(boxes, Few(2), plan)
        self.assertEqual([case.stand(1).is_end() for part, case in ends_of(boxes, Few(2), plan)],
                         [False, False, True, True])

    def test_boxes_kept_ahead_of_opens_and_worths_of_nought(self):
        boxes = [End(0), coin(0, 0, 0)]
        plan = Take(0, Open(1, [Take(1, Stop()), Stop()]))
        self.assertEqual(leaves(boxes, Few(2), plan), [((0,), (1, 2), (0, 1), 0), ((1,), (1, 2), (0,), 0)])
        self.assertEqual(worth(boxes, Few(2), plan), (0, 1))

    def test_a_worth_below_nought(self):
        plan = Open(0, [Stop(), Stop()])
        self.assertEqual(worth([coin(TOP_WORTH)], Few(1), plan), (-TOP_WORTH, 1))
        self.assertEqual(worth([Stage(0, [(1, End(1)), (1000, End(0))])], Few(1), Open(0, [Take(0, Stop()), Stop()])),
                         (1, 1001))

    def test_patterns_of_each_sort(self):
        boxes = [End(1), End(2), End(4)]
        plan = Take(2, Take(0, Stop()))
        for pattern in (Few(2), Few(6), Groups([0, 0, 1], [1, 1, 0, 0, 0, 0]), Listed([0, 1, 2, 4, 5, 6])):
            self.assertEqual(leaves(boxes, pattern, plan), [((), (1, 1), (0, 2), 5)])
        self.assert_no_plan((), boxes, Groups([0, 1, 0], [1, 1, 0, 0, 0, 0]), plan)
        self.assert_no_plan((), boxes, Listed([0, 1, 2, 4, 3, 6]), plan)

    def test_a_pattern_with_a_flaw_among_further_boxes_only(self):
        pattern = Listed([0, 1, 2, 3, 12])
        self.assertEqual(leaves([End(1), End(2)], pattern, Take(0, Take(1, Stop()))), [((), (1, 1), (0, 1), 3)])
        self.assert_refused(NoPattern, leaves, [End(1)] * 4, pattern, Stop())

    def test_the_longest_way(self):
        boxes = [chain(4, 1, 9)] * 6
        takes = Stop()
        for box in range(6):
            takes = Take(box, takes)
        one = chain_plan([0, 1, 2, 3, 4, 5] * 4, takes)
        other = chain_plan([0] * 4 + [1] * 4 + [2] * 4 + [3] * 4 + [4] * 4 + [5] * 4, takes)
        for plan in (one, other):
            self.assertEqual(leaves(boxes, Few(6), plan), [((0,) * 24, (1, 1), (0, 1, 2, 3, 4, 5), 30)])
            self.assert_known(boxes, Few(6), plan)

    def test_drawn_plans(self):
        source = random.Random(51)
        for many in list(range(1, 7)) * 25:
            boxes = drawn_boxes(source, many)
            pattern = drawn_pattern(source, many)
            plan = drawn_plan(source, Case(boxes), pattern, source.choice((0, 0.1, 0.3)))
            self.assert_known(boxes, pattern, plan)

    def test_many_leaves(self):
        boxes = [Stage(1, [(1, End(1)), (2, End(2)), (3, End(3)), (5, End(4))])] * 6
        plan = Take(5, Stop())
        for box in range(6):
            plan = Open(box, [plan] * 4)
        rows = leaves(boxes, Few(1), plan)
        self.assertEqual(len(rows), 4096)
        self.assertEqual(rows[0], ((0,) * 6, (1, 11 ** 6), (5,), -5))
        self.assertEqual(rows[-1], ((3,) * 6, (5 ** 6, 11 ** 6), (5,), -2))
        self.assertEqual(sorted(row[0] for row in rows), [row[0] for row in rows])
        self.assertEqual(worth(boxes, Few(1), plan), (34 - 66, 11))


class Own(PlansTest):
    """What is handed in stays, and what is told is the asker's own."""

    def test_what_is_handed_in_stays(self):
        source = random.Random(52)
        for many in (1, 2, 3, 4):
            boxes = drawn_boxes(source, many)
            given = list(boxes)
            stands = [box.told() for box in boxes]
            pattern = drawn_pattern(source, many)
            plan = drawn_plan(source, Case(boxes), pattern, 0)
            before = (plan.told(), pattern.told())
            for ask in ASKS:
                ask(boxes, pattern, plan)
            self.assertEqual(boxes, given)
            self.assertEqual([box.told() for box in boxes], stands)
            self.assertEqual((plan.told(), pattern.told()), before)

    def test_lists_told_may_be_changed(self):
        boxes = [coin(), doc_stand()]
        plan = Open(0, [Open(1, [Take(1, Stop()), Stop()]), Take(0, Stop())])
        wanted = copy.deepcopy(leaves(boxes, Few(1), plan))
        rows = leaves(boxes, Few(1), plan)
        rows[0] = None
        rows.clear()
        self.assertEqual(leaves(boxes, Few(1), plan), wanted)
        ends = ends_of(boxes, Few(1), plan)
        ends.clear()
        self.assertEqual(len(ends_of(boxes, Few(1), plan)), 3)
        self.assertEqual(plan.told(), ("open", 0, (
            ("open", 1, (("take", 1, ("stop",)), ("stop",))), ("take", 0, ("stop",)))))

    def test_cases_told_go_on_by_themselves(self):
        boxes = [coin(), End(2)]
        plan = Open(0, [Stop(), Stop()])
        case = ends_of(boxes, Few(2), plan)[1][1]
        later = case.taken(0).taken(1)
        self.assertEqual((case.kept(), later.kept(), later.had()), ([], [0, 1], 9))
        self.assertEqual(ends_of(boxes, Few(2), plan)[1][1].kept(), [])

    def test_boxes_changed_behind(self):
        boxes = [coin(), End(2)]
        ends = ends_of(boxes, Few(2), Open(0, [Stop(), Stop()]))
        boxes[1] = End(5)
        boxes.clear()
        self.assertEqual(ends[0][1].how_many(), 2)
        self.assertEqual(ends[0][1].stand(1).told(), ("end", 2))


class WrongKnots(PlansTest):
    def wrong_boxes(self):
        return wrong_things() + [2, 3, 6, 64, -1, -2]

    def places(self, knot):
        """The knot at the top and deep in plans for the boxes below, with the way that leads to it."""
        return [
            ((), knot),
            ((0,), Open(0, [knot, Stop()])),
            ((1,), Open(0, [Stop(), knot])),
            ((1,), Open(0, [Stop(), Take(0, knot)])),
            ((1, 0), Open(0, [Take(0, Stop()), Open(1, [knot, Stop()])])),
            ((0, 1, 0), Open(0, [Open(1, [Stop(), Open(1, [knot, Stop()])]), Stop()])),
            ((0, 1, 1), Open(0, [Open(1, [Stop(), Open(1, [Stop(), Take(1, Take(0, knot))])]), Stop()])),
        ]

    def boxes(self):
        return [coin(), doc_stand()]

    def assert_wrong(self, knot):
        for way, plan in self.places(knot):
            self.assert_no_plan(way, self.boxes(), Few(2), plan)

    def test_the_places_are_right_for_a_stop(self):
        for way, plan in self.places(Stop()):
            self.assert_known(self.boxes(), Few(2), plan)

    def test_a_box_that_is_none(self):
        for thing in self.wrong_boxes():
            with self.subTest(type(thing).__name__):
                self.assert_wrong(Take(thing, Stop()))
                for many in (0, 1, 2, 3):
                    self.assert_no_plan((), self.boxes(), Few(2), Open(thing, [Stop()] * many))
                self.assert_wrong(Open(thing, [Stop(), Stop()]))

    def test_numbers_by_how_many_boxes(self):
        for many in range(1, 7):
            ends = [End(4)] * many
            stages = [chain(1)] * many
            for box in range(many):
                self.assertIsNone(check_plan(ends, Few(1), Take(box, Stop())))
                self.assertIsNone(check_plan(stages, Few(1), Open(box, [Stop()])))
            for box in (many, many + 1, -1, -many):
                self.assert_no_plan((), ends, Few(1), Take(box, Stop()))
                self.assert_no_plan((), stages, Few(1), Open(box, [Stop()]))

    def test_truths_are_no_numbers(self):
        self.assert_no_plan((), [End(1), End(2)], Few(2), Take(True, Stop()))
        self.assert_no_plan((), [End(1), End(2)], Few(2), Take(False, Stop()))
        self.assert_no_plan((0,), [chain(2)], Few(2), Open(0, [Open(False, [Stop()])]))

    def test_a_thing_that_is_no_knot(self):
        no_knots = plain_things() + [thing for thing in objects() if not isinstance(thing, Plan)]
        for thing in no_knots + [0, 1, "stop", ("stop",), ["stop"], [Stop()], (Stop(),)]:
            with self.subTest(type(thing).__name__):
                self.assert_wrong(thing)

    def test_a_box_at_a_stage_kept(self):
        self.assert_no_plan((), self.boxes(), Few(2), Take(0, Stop()))
        self.assert_no_plan((), self.boxes(), Few(2), Take(1, Stop()))
        self.assert_no_plan((0,), self.boxes(), Few(2), Open(0, [Take(1, Stop()), Stop()]))
        self.assert_no_plan((1,), self.boxes(), Few(2), Open(1, [Take(1, Stop()), Take(1, Stop())]))
        self.assert_no_plan((1,), self.boxes(), Few(2), Open(1, [Take(1, Stop()), Take(0, Stop())]))

    def test_a_box_at_an_end_opened(self):
        for plans in ([], [Stop()], [Stop()] * 2, [Stop()] * 5):
            self.assert_no_plan((), [End(1)], Few(1), Open(0, plans))
            self.assert_no_plan((), [End(1)], Few(1), Take(0, Open(0, plans)))
            self.assert_no_plan((0,), self.boxes(), Few(2), Open(0, [Open(0, plans), Stop()]))
            self.assert_no_plan((1,), self.boxes(), Few(2), Open(0, [Stop(), Take(0, Open(0, plans))]))
            self.assert_no_plan((1, 1), self.boxes(), Few(2), Open(1, [Stop(), Open(1, [Stop(), Open(1, plans)])]))

    def test_a_box_kept_twice(self):
        self.assert_no_plan((), [End(1)], Few(2), Take(0, Take(0, Stop())))
        self.assert_no_plan((), [End(1), End(2)], Few(6), Take(0, Take(1, Take(0, Stop()))))
        self.assert_no_plan((1,), self.boxes(), Few(2), Open(0, [Stop(), Take(0, Take(0, Stop()))]))
        self.assert_no_plan((1, 0), self.boxes(), Few(2),
                            Open(0, [Stop(), Take(0, Open(1, [Take(1, Take(0, Stop())), Stop()]))]))

    def test_a_set_that_the_pattern_has_not(self):
        boxes = [End(1), End(2), coin()]
        self.assert_no_plan((), boxes, Few(0), Take(0, Stop()))
        self.assert_no_plan((), boxes, Few(1), Take(0, Take(1, Stop())))
        self.assert_no_plan((1,), boxes, Few(1), Take(0, Open(2, [Stop(), Take(2, Stop())])))
        pattern = Groups([0, 0, 1], [1, 1, 0, 0, 0, 0])
        self.assert_no_plan((), boxes, pattern, Take(1, Take(0, Stop())))
        self.assertIsNone(check_plan(boxes, pattern, Take(1, Open(2, [Take(2, Stop())] * 2))))
        self.assert_no_plan((), boxes, Groups([0], [1] * 6), Take(1, Stop()))
        self.assert_no_plan((), boxes, Listed([0, 2]), Take(0, Stop()))
        self.assertIsNone(check_plan(boxes, Listed([0, 2]), Take(1, Stop())))

    def test_too_few_and_too_many_plans(self):
        for many in range(1, 5):
            boxes = [coin(), Stage(1, [(1, End(row)) for row in range(many)])]
            for plans in range(7):
                if plans == many:
                    self.assertIsNone(check_plan(boxes, Few(1), Open(1, [Stop()] * plans)))
                else:
                    self.assert_no_plan((), boxes, Few(1), Open(1, [Stop()] * plans))
                    self.assert_no_plan((1,), boxes, Few(1), Open(0, [Stop(), Open(1, [Stop()] * plans)]))

    def test_the_first_wrong_knot_of_several(self):
        wrong = Take(9, Stop())
        boxes = self.boxes()
        self.assert_no_plan((0,), boxes, Few(2), Open(0, [wrong, None]))
        self.assert_no_plan((1,), boxes, Few(2), Open(0, [Stop(), wrong]))
        self.assert_no_plan((0, 1, 0), boxes, Few(2), Open(0, [Open(1, [Stop(), Open(1, [wrong, None])]), wrong]))
        self.assert_no_plan((0, 1), boxes, Few(2), Open(0, [Open(1, [Stop(), wrong]), wrong]))
        # A knot is looked at ahead of all behind it, and plans that are too many are not looked at.
        self.assert_no_plan((), boxes, Few(2), Open(0, [wrong]))
        self.assert_no_plan((), boxes, Few(2), Open(9, [wrong, wrong]))
        self.assert_no_plan((), boxes, Few(2), Take(9, wrong))
        self.assert_no_plan((1,), boxes, Few(2), Open(0, [Stop(), Take(0, Take(0, wrong))]))

    def test_forty_knots_on_a_way(self):
        for opens in (39, 38, 25):
            plan = chain_plan([box % 6 for box in range(opens)], Stop())
            self.assert_no_plan((0,) * 24, [chain(4)] * 6, Few(6), plan)
        takes = Stop()
        for box in range(15):
            takes = Take(box % 6, takes)
        plan = chain_plan([0, 1, 2, 3, 4, 5] * 4, takes)
        self.assert_no_plan((0,) * 24, [chain(4)] * 6, Few(6), plan)
        self.assert_no_plan((0,) * 4, [chain(4)], Few(1), chain_plan([0] * 39, None))

    def test_drawn_plans_with_a_knot_put_in(self):
        source = random.Random(53)
        for many in list(range(1, 5)) * 20:
            boxes = drawn_boxes(source, many)
            pattern = drawn_pattern(source, many)
            plan = drawn_plan(source, Case(boxes), pattern, 0.1)
            ways = [row[0] for row in leaves(boxes, pattern, plan)]
            way = source.choice(ways)
            later = [other for other in ways if other >= way]
            self.assert_no_plan(way, boxes, pattern, self.with_wrong_leaves(plan, set(later)))

    def with_wrong_leaves(self, plan, ways, way=()):
        """The plan with something that is no knot in the place of the stops at these ways."""
        if isinstance(plan, Stop):
            return "stop" if way in ways else plan
        if isinstance(plan, Take):
            return Take(plan.box, self.with_wrong_leaves(plan.then, ways, way))
        plans = [self.with_wrong_leaves(inner, ways, way + (row,)) for row, inner in enumerate(plan.plans)]
        return Open(plan.box, plans)


class OrderOfRefusals(PlansTest):
    def wrong_patterns(self):
        return plain_things() + [thing for thing in objects() if not isinstance(thing, (Few, Groups, Listed))]

    def test_no_box_goes_first(self):
        for thing in wrong_things() + [0, [], [End(1)] * 7, [End(1), None], (End(1),)]:
            with self.subTest(type(thing).__name__):
                for ask in ASKS:
                    self.assert_refused(NoBox, ask, thing, Few(1), Stop())
                    self.assert_refused(NoBox, ask, thing, Listed([1]), Take(9, Stop()))
                    self.assert_refused(NoBox, ask, thing, None, None)

    def test_then_no_sets(self):
        for thing in self.wrong_patterns() + [0, 1, ("few", 1), "few 1"]:
            with self.subTest(type(thing).__name__):
                for ask in ASKS:
                    self.assert_refused(NoSets, ask, [End(1)], thing, Stop())
                    self.assert_refused(NoSets, ask, [coin()], thing, Take(9, Stop()))
                    self.assert_refused(NoSets, ask, [coin()], thing, thing)

    def test_then_no_pattern(self):
        for sets, one, other in (([1], 0, 0), ([0, 3, 1], 3, 2), ([0, 1, 2, 4, 3], 3, 4)):
            for plan in (Stop(), None, Take(9, Stop()), Open(0, [])):
                for ask in ASKS:
                    error = self.assert_refused(NoPattern, ask, [coin()] * 3, Listed(sets), plan)
                    self.assertEqual((error.one, error.other), (one, other))

    def test_then_no_plan(self):
        self.assert_no_plan((), [coin()] * 6, Few(6), None)
        # However many unfoldings there are.
        self.assert_no_plan((), [Stage(1, [(1, chain(1))] * 4)] * 6, Few(6), Take(0, Stop()))

    def test_what_is_refused_changes_nothing(self):
        boxes = [coin(), End(2)]
        plan = Open(0, [Take(0, Stop()), Take(7, Stop())])
        before = plan.told()
        self.assert_no_plan((1,), boxes, Few(1), plan)
        self.assertEqual(plan.told(), before)
        self.assertEqual(len(boxes), 2)
        self.assert_no_plan((1,), boxes, Few(1), plan)
        self.assertEqual(len(leaves(boxes, Few(1), Open(0, [Take(0, Stop()), Stop()]))), 2)


if __name__ == "__main__":
    main()
