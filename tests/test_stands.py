import copy
import itertools
import random
from fractions import Fraction
from unittest import main

from lidprice.errors import NoBox
from lidprice.stands import End, Stage, Stand, need_boxes
from lidprice.tables import above, capped, mixed
from tests.helper import (LONG, TOP_WORTH, ExactTest, chain, doc_stand, drawn_stands, known_cap, known_caps,
                          known_reserve, known_ways, objects, plain_things, table_by, told, wrong_things)


def known_beside(stand, level):
    if stand[0] == "end":
        return max(level, Fraction(stand[1]))
    weights = sum(weight for weight, behind in stand[2])
    opened = sum(Fraction(weight, weights) * known_beside(behind, level) for weight, behind in stand[2])
    return max(level, opened - stand[1])


def stages_of(stand, way=()):
    """The ways that lead from a stand, told in full, to each of its stages."""
    if stand[0] == "end":
        return []
    found = [way]
    for row, (weight, behind) in enumerate(stand[2]):
        found.extend(stages_of(behind, way + (row,)))
    return found


def had_by(stand, level, opens, way=()):
    """The mean of what is had where just these stages are opened, and the better taken where one stops."""
    if stand[0] == "end":
        return max(level, Fraction(stand[1]))
    if way not in opens:
        return level
    weights = sum(weight for weight, behind in stand[2])
    had = -Fraction(stand[1])
    for row, (weight, behind) in enumerate(stand[2]):
        had += Fraction(weight, weights) * had_by(behind, level, opens, way + (row,))
    return had


def levels_for(stand):
    levels = [Fraction(-5), Fraction(-1, 3), Fraction(0), Fraction(1, 2), Fraction(7, 3), Fraction(2 * TOP_WORTH)]
    levels.extend(cap for cap, part in known_caps(stand.told()))
    levels.append(known_reserve(stand.told()) + Fraction(1, 7))
    return levels


def all_within(stand):
    if stand.is_end():
        return [stand]
    return [stand] + [inner for weight, behind in stand.rows for inner in all_within(behind)]


class StandsTest(ExactTest):
    def assert_table(self, found, wanted):
        self.assertIs(type(found), list)
        for row in found:
            self.assertIs(type(row), tuple)
            self.assert_fraction(row[0], Fraction(*row[0]))
            self.assertIs(type(row[1]), int)
        self.assertEqual(found, wanted)

    def assert_beside(self, stand, level):
        found = stand.beside(told(level))
        self.assert_fraction(found, known_beside(stand.told(), level))
        self.assert_fraction(found, level + Fraction(*above(stand.caps(), told(level))))


class Ends(StandsTest):
    def test_what_an_end_tells(self):
        for worth in (0, 1, 7, TOP_WORTH - 1, TOP_WORTH):
            end = End(worth)
            self.assertIsInstance(end, Stand)
            self.assert_whole(end.worth, worth)
            self.assertIs(end.is_end(), True)
            self.assert_whole(end.ends(), 1)
            self.assert_whole(end.stages(), 0)
            self.assertEqual(end.ways(), [((), (1, 1), (worth, 1), worth)])
            self.assert_fraction(end.reserve(), worth)
            self.assert_table(end.caps(), [((worth, 1), 1)])
            self.assertEqual(end.told(), ("end", worth))

    def test_beside(self):
        self.assertEqual(End(7).beside((6, 1)), (7, 1))
        self.assertEqual(End(7).beside((7, 1)), (7, 1))
        self.assertEqual(End(7).beside((15, 2)), (15, 2))
        self.assertEqual(End(0).beside((-1, 2)), (0, 1))
        self.assertEqual(End(0).beside((0, 1)), (0, 1))
        self.assertEqual(End(TOP_WORTH).beside((LONG, LONG - 1)), (TOP_WORTH, 1))
        self.assertEqual(End(TOP_WORTH).beside((LONG, 2)), (LONG, 2))


class WrittenOut(StandsTest):
    def test_the_stand_of_the_document(self):
        stand = doc_stand()
        self.assertIsInstance(stand, Stand)
        self.assertIs(stand.is_end(), False)
        self.assert_whole(stand.price, 3)
        self.assert_whole(stand.ends(), 3)
        self.assert_whole(stand.stages(), 2)
        self.assertEqual(stand.row_share(0), (2, 3))
        self.assertEqual(stand.row_share(1), (1, 3))
        self.assertEqual(stand.after(0).told(), ("end", 10))
        self.assertEqual(stand.after(1).reserve(), (30, 1))
        self.assertEqual(stand.after(1).caps(), [((0, 1), 1), ((30, 1), 1)])
        self.assertEqual(stand.reserve(), (12, 1))
        self.assertEqual(stand.caps(), [((0, 1), 1), ((10, 1), 4), ((12, 1), 1)])
        self.assertEqual(stand.ways(), [((0,), (2, 3), (10, 1), 10), ((1, 0), (1, 6), (0, 1), 0),
                                        ((1, 1), (1, 6), (12, 1), 40)])
        self.assertEqual(stand.beside((0, 1)), (26, 3))
        self.assertEqual(stand.beside((11, 1)), (67, 6))
        self.assertEqual(stand.beside((12, 1)), (12, 1))
        self.assertEqual(stand.beside((-4, 1)), (26, 3))
        self.assertEqual(stand.told(), ("stage", 3, ((2, ("end", 10)),
                                                     (1, ("stage", 5, ((1, ("end", 0)), (1, ("end", 40))))))))

    def test_fields_of_a_stage(self):
        end = End(4)
        inner = Stage(1, [(6, end)])
        stand = Stage(2, [(1000, inner), (1, end)])
        self.assertIs(type(stand.rows), tuple)
        self.assertEqual([type(row) for row in stand.rows], [tuple, tuple])
        self.assertEqual([weight for weight, behind in stand.rows], [1000, 1])
        self.assertEqual([behind.told() for weight, behind in stand.rows], [inner.told(), end.told()])

    def test_weights_are_told_as_handed_in(self):
        stand = Stage(0, [(6, End(1)), (4, End(2)), (2, End(3))])
        self.assertEqual(stand.told(), ("stage", 0, ((6, ("end", 1)), (4, ("end", 2)), (2, ("end", 3)))))
        self.assertEqual([stand.row_share(row) for row in range(3)], [(1, 2), (1, 3), (1, 6)])
        self.assertEqual(stand.caps(), [((1, 1), 3), ((2, 1), 2), ((3, 1), 1)])

    def test_rows_stay_in_their_order(self):
        stand = Stage(1, [(1, End(9)), (2, End(0)), (3, End(5)), (4, End(9))])
        self.assertEqual([worth for way, part, cap, worth in stand.ways()], [9, 0, 5, 9])
        self.assertEqual([way for way, part, cap, worth in stand.ways()], [(0,), (1,), (2,), (3,)])
        self.assertEqual([stand.after(row).worth for row in range(4)], [9, 0, 5, 9])

    def test_ways_of_unlike_lengths(self):
        stand = Stage(0, [(1, Stage(0, [(1, End(1)), (1, Stage(0, [(1, End(2))]))])), (1, End(3)), (1, chain(2))])
        self.assertEqual([way for way, part, cap, worth in stand.ways()], [(0, 0), (0, 1, 0), (1,), (2, 0, 0)])
        self.assert_whole(stand.ends(), 4)
        self.assert_whole(stand.stages(), 3)


class Reserves(StandsTest):
    def test_the_price_nought(self):
        self.assertEqual(Stage(0, [(1, End(4)), (1000, End(0))]).reserve(), (4, 1))
        self.assertEqual(Stage(0, [(7, End(4))]).reserve(), (4, 1))
        self.assertEqual(Stage(0, [(1, End(0)), (1, End(0))]).reserve(), (0, 1))
        self.assertEqual(Stage(0, [(1, Stage(1, [(1, End(9)), (1, End(1))])), (1, End(2))]).reserve(), (7, 1))

    def test_the_price_nought_above_a_reserve_below_nought(self):
        low = Stage(9, [(1, End(4)), (1, End(0))])
        self.assertEqual(low.reserve(), (-7, 1))
        self.assertEqual(Stage(0, [(1, low)]).reserve(), (-7, 1))
        self.assertEqual(Stage(0, [(1, low)]).caps(), [((-7, 1), 1)])
        self.assertEqual(Stage(0, [(1, low), (3, End(0))]).caps(), [((-7, 1), 1), ((0, 1), 3)])

    def test_below_nought_just_where_the_price_is_too_great(self):
        rows = [(1, End(4)), (1, End(0))]
        self.assertEqual(Stage(1, rows).reserve(), (2, 1))
        self.assertEqual(Stage(2, rows).reserve(), (0, 1))
        self.assertEqual(Stage(3, rows).reserve(), (-1, 1))
        self.assertEqual(Stage(3, rows).caps(), [((-1, 1), 1)])
        self.assertEqual(Stage(3, rows).beside((0, 1)), (0, 1))
        self.assertEqual(Stage(3, rows).beside((-1, 1)), (-1, 1))
        self.assertEqual(Stage(3, rows).beside((-2, 1)), (-1, 1))

    def test_the_greatest_numbers(self):
        self.assertEqual(Stage(TOP_WORTH, [(1, End(0))]).reserve(), (-TOP_WORTH, 1))
        self.assertEqual(Stage(TOP_WORTH, [(1, End(TOP_WORTH))]).reserve(), (0, 1))
        self.assertEqual(Stage(1, [(1, End(TOP_WORTH)), (1000, End(0))]).reserve(), (TOP_WORTH - 1001, 1))
        self.assertEqual(chain(4, TOP_WORTH, 0).reserve(), (-4 * TOP_WORTH, 1))

    def test_a_fraction(self):
        stand = Stage(1, [(2, End(5)), (1, End(0))])
        self.assertEqual(stand.reserve(), (7, 2))
        self.assertEqual(stand.caps(), [((0, 1), 1), ((7, 2), 2)])
        self.assertEqual(stand.ways(), [((0,), (2, 3), (7, 2), 5), ((1,), (1, 3), (0, 1), 0)])

    def test_the_lid_within_is_lower_or_higher(self):
        low = Stage(6, [(1, End(10)), (1, End(0))])
        self.assertEqual(low.caps(), [((-1, 1), 1)])
        stand = Stage(2, [(1, low), (1, End(20))])
        self.assertEqual(stand.reserve(), (16, 1))
        self.assertEqual(stand.ways(), [((0, 0), (1, 4), (-1, 1), 10), ((0, 1), (1, 4), (-1, 1), 0),
                                        ((1,), (1, 2), (16, 1), 20)])
        self.assertEqual(stand.caps(), [((-1, 1), 1), ((16, 1), 1)])

    def test_drawn_ones(self):
        for stand in drawn_stands(random.Random(21), 120):
            for inner in all_within(stand):
                self.assert_fraction(inner.reserve(), known_reserve(inner.told()))

    def test_what_a_reserve_is(self):
        for stand in drawn_stands(random.Random(22), 80):
            for inner in all_within(stand):
                if inner.is_end():
                    continue
                behind = mixed([(weight, row.caps()) for weight, row in inner.rows])
                self.assert_fraction(above(behind, inner.reserve()), inner.price)
                lower = Fraction(*inner.reserve()) - Fraction(1, 100)
                self.assertGreater(Fraction(*above(behind, told(lower))), inner.price)
                if inner.price > 0:
                    self.assertEqual(inner.reserve()[0] < 0, inner.price > Fraction(*above(behind, (0, 1))))


class WaysAndCaps(StandsTest):
    def test_drawn_ones(self):
        for stand in drawn_stands(random.Random(23), 120):
            for inner in all_within(stand):
                full = inner.told()
                wanted = [(way, told(part), told(known_cap(full, way)), worth)
                          for way, part, worth in known_ways(full)]
                self.assertEqual(inner.ways(), wanted)
                self.assertEqual(sorted(way for way, part, cap, worth in wanted), [row[0] for row in wanted])
                self.assert_table(inner.caps(), table_by(known_caps(full)))
                self.assert_whole(inner.ends(), len(wanted))
                self.assert_whole(inner.stages(), max(len(row[0]) for row in wanted))

    def test_kinds(self):
        for way, part, cap, worth in doc_stand().ways() + End(3).ways() + chain(4).ways():
            self.assertEqual([type(way), type(worth)], [tuple, int])
            self.assert_fraction(part, Fraction(*part))
            self.assert_fraction(cap, Fraction(*cap))
        self.assertEqual([type(row) for row in doc_stand().ways()], [tuple] * 3)

    def test_caps_are_those_behind_brought_down(self):
        for stand in drawn_stands(random.Random(24), 60):
            self.assertEqual(stand.caps()[-1][0], stand.reserve())
            if not stand.is_end():
                behind = mixed([(weight, row.caps()) for weight, row in stand.rows])
                self.assertEqual(stand.caps(), capped(behind, stand.reserve()))

    def test_equal_caps_stand_in_one_row(self):
        stand = Stage(1, [(1, End(5)), (1, End(9)), (1, End(8)), (3, End(0))])
        self.assertEqual(stand.reserve(), (11, 2))
        self.assertEqual(stand.caps(), [((0, 1), 3), ((5, 1), 1), ((11, 2), 2)])
        self.assertEqual(Stage(0, [(1, End(5)), (1, End(5))]).caps(), [((5, 1), 1)])

    def test_one_stand_in_several_rows(self):
        coin = Stage(1, [(1, End(0)), (1, End(8))])
        stand = Stage(0, [(1, coin), (2, coin), (3, End(8)), (6, coin)])
        self.assert_whole(stand.ends(), 7)
        self.assert_whole(stand.stages(), 2)
        self.assertEqual([row[:2] for row in stand.ways()],
                         [((0, 0), (1, 24)), ((0, 1), (1, 24)), ((1, 0), (1, 12)), ((1, 1), (1, 12)),
                          ((2,), (1, 4)), ((3, 0), (1, 4)), ((3, 1), (1, 4))])
        self.assertEqual(stand.caps(), [((0, 1), 3), ((6, 1), 3), ((8, 1), 2)])
        same = Stage(4, [(1, coin), (1, coin)])
        self.assertEqual(same.told(), ("stage", 4, ((1, coin.told()), (1, coin.told()))))
        self.assertEqual(same.caps(), Stage(4, [(1, coin)]).caps())

    def test_one_end_in_all_rows(self):
        end = End(6)
        stand = Stage(2, [(1, end), (1, end), (2, end), (996, end)])
        self.assert_whole(stand.ends(), 4)
        self.assertEqual(stand.reserve(), (4, 1))
        self.assertEqual(stand.caps(), [((4, 1), 1)])

    def test_multiplied(self):
        for stand in drawn_stands(random.Random(25), 40)[:40]:
            for factor in (1, 2, 7, 1000):
                more = multiplied(stand, factor)
                self.assert_fraction(more.reserve(), Fraction(*stand.reserve()) * factor)
                self.assert_table(more.caps(), [(told(Fraction(*cap) * factor), weight)
                                                for cap, weight in stand.caps()])


def multiplied(stand, factor):
    if stand.is_end():
        return End(stand.worth * factor)
    return Stage(stand.price * factor, [(weight, multiplied(row, factor)) for weight, row in stand.rows])


class Beside(StandsTest):
    def test_drawn_ones(self):
        for stand in drawn_stands(random.Random(26), 100):
            for level in levels_for(stand):
                self.assert_beside(stand, level)

    def test_long_levels(self):
        for stand in drawn_stands(random.Random(27), 20):
            for level in ((LONG, LONG - 1), (-LONG, LONG - 1), (LONG, 1), (-LONG, 1), (1, LONG), (-1, LONG),
                          (9 * LONG + 1, LONG)):
                self.assert_beside(stand, Fraction(*level))

    def test_above_all_worths_the_level_itself(self):
        for stand in drawn_stands(random.Random(28), 20):
            self.assertEqual(stand.beside((4 * TOP_WORTH, 1)), (4 * TOP_WORTH, 1))
            self.assertEqual(stand.beside(stand.reserve()), stand.reserve())

    def test_it_is_the_most_of_all_plans(self):
        gone_through = 0
        for stand in drawn_stands(random.Random(29), 80):
            full = stand.told()
            stages = stages_of(full)
            if len(stages) > 6:
                continue
            gone_through += 1
            for level in levels_for(stand)[:6]:
                found = [had_by(full, level, opens) for many in range(len(stages) + 1)
                         for opens in itertools.combinations(stages, many)]
                self.assert_fraction(stand.beside(told(level)), max(found))
        self.assertGreater(gone_through, 30)


class Own(StandsTest):
    """What is handed in stays as it was, and what is told is the asker's own."""

    def everything(self, stand):
        return copy.deepcopy((stand.is_end(), stand.ends(), stand.stages(), stand.ways(), stand.reserve(),
                              stand.caps(), stand.beside((5, 2)), stand.told()))

    def test_rows_that_are_changed_later(self):
        rows = [(1, End(4)), (2, chain(2))]
        given = list(rows)
        stand = Stage(1, rows)
        self.assertEqual(rows, given)
        before = self.everything(stand)
        rows[0] = (7, End(9))
        rows.append((1, End(1)))
        self.assertEqual(self.everything(stand), before)
        self.assertEqual(len(stand.rows), 2)
        rows.clear()
        self.assertEqual(self.everything(stand), before)

    def test_lists_that_are_told(self):
        for stand in drawn_stands(random.Random(30), 12):
            before = self.everything(stand)
            for ask in (stand.ways, stand.caps):
                found = ask()
                found.append(0)
                found[0] = None
                self.assertEqual(self.everything(stand), before)
                found.clear()
                self.assertEqual(self.everything(stand), before)
                self.assertIsNot(ask(), ask())

    def test_lists_told_of_what_stands_within(self):
        inner = Stage(1, [(1, End(2)), (1, End(6))])
        outer = Stage(1, [(1, inner), (1, inner)])
        before = self.everything(outer)
        inner.caps().clear()
        inner.ways().clear()
        outer.after(0).caps().clear()
        self.assertEqual(self.everything(outer), before)

    def test_a_stand_within_another_stays_as_it_was(self):
        inner = Stage(1, [(1, End(2)), (1, End(6))])
        before = self.everything(inner)
        Stage(0, [(1, Stage(9, [(3, inner)])), (1, inner)])
        need_boxes([inner, inner])
        self.assertEqual(self.everything(inner), before)

    def test_asked_again(self):
        for stand in drawn_stands(random.Random(31), 12):
            self.assertEqual(self.everything(stand), self.everything(stand))


class NoEnd(StandsTest):
    def test_bounds(self):
        for worth in (-1, TOP_WORTH + 1, -TOP_WORTH, 10 ** 100 - 1, 1 - 10 ** 100):
            self.assert_refused(NoBox, End, worth)

    def test_things_of_all_kinds(self):
        for thing in wrong_things():
            with self.subTest(type(thing).__name__):
                self.assert_refused(NoBox, End, thing)


class NoStage(StandsTest):
    rows = [(1, End(1)), (2, End(2))]

    def test_prices(self):
        for price in (-1, TOP_WORTH + 1, 10 ** 100 - 1, 1 - 10 ** 100):
            self.assert_refused(NoBox, Stage, price, self.rows)
        for thing in wrong_things():
            with self.subTest(type(thing).__name__):
                self.assert_refused(NoBox, Stage, thing, self.rows)
        self.assertEqual(Stage(0, self.rows).price, 0)
        self.assertEqual(Stage(TOP_WORTH, self.rows).price, TOP_WORTH)

    def test_rows_of_other_kinds(self):
        for thing in wrong_things() + [0, 1, 4, tuple(self.rows), {1: End(1)}, {0: (1, End(1))}, "rows"]:
            with self.subTest(type(thing).__name__):
                self.assert_refused(NoBox, Stage, 1, thing)

    def test_how_many_rows(self):
        for many in range(1, 5):
            self.assertEqual(len(Stage(1, [(1, End(1))] * many).rows), many)
        for many in (0, 5, 6, 100):
            self.assert_refused(NoBox, Stage, 1, [(1, End(1))] * many)

    def test_a_row_of_another_kind(self):
        wrong = wrong_things() + [0, 1, (1,), (1, End(1), 1), (End(1), 1), [1, End(1)], (End(1),), (1, End(1), End(1)),
                                  {1: End(1)}, (1, 1), (1, [End(1)]), (1, (End(1),)), ((1, End(1)),)]
        for thing in wrong:
            with self.subTest(type(thing).__name__):
                self.assert_refused(NoBox, Stage, 1, [thing])
                self.assert_refused(NoBox, Stage, 1, [(1, End(1)), thing])
                self.assert_refused(NoBox, Stage, 1, [thing, (1, End(1)), (1, End(1)), (1, End(1))])

    def test_weights(self):
        for weight in (1, 2, 999, 1000):
            self.assertEqual(Stage(1, [(weight, End(1))]).rows[0][0], weight)
        for thing in wrong_things() + [0, 1001, TOP_WORTH]:
            with self.subTest(type(thing).__name__):
                self.assert_refused(NoBox, Stage, 1, [(thing, End(1))])
                self.assert_refused(NoBox, Stage, 1, [(1, End(1)), (1, End(1)), (thing, chain(1))])

    def test_stands_that_are_none(self):
        for thing in plain_things() + objects()[2:] + [0, 1, ("end", 1), End(1).told(), chain(1).told()]:
            with self.subTest(type(thing).__name__):
                self.assert_refused(NoBox, Stage, 1, [(1, thing)])
                self.assert_refused(NoBox, Stage, 1, [(1, End(1)), (1, thing)])

    def test_stages_on_a_way(self):
        for stages in range(1, 5):
            self.assert_whole(chain(stages).stages(), stages)
        four = chain(4)
        self.assert_refused(NoBox, Stage, 1, [(1, four)])
        self.assert_refused(NoBox, Stage, 0, [(1, End(1)), (1, chain(1)), (1, four)])
        self.assert_refused(NoBox, Stage, 0, [(1, four), (1, End(1))])
        self.assert_whole(Stage(1, [(1, chain(3)), (1, End(2)), (1, chain(3))]).stages(), 4)

    def test_how_many_ends(self):
        four = Stage(1, [(1, End(1))] * 4)
        three = Stage(1, [(1, End(1))] * 3)
        self.assert_whole(Stage(1, [(1, four)] * 3).ends(), 12)
        self.assert_whole(Stage(1, [(1, three)] * 4).ends(), 12)
        self.assert_whole(Stage(1, [(1, four), (1, four), (1, three), (1, End(1))]).ends(), 12)
        self.assert_refused(NoBox, Stage, 1, [(1, four), (1, four), (1, four), (1, End(1))])
        self.assert_refused(NoBox, Stage, 1, [(1, three), (1, three), (1, three), (1, four)])
        self.assert_refused(NoBox, Stage, 1, [(1, four)] * 4)
        twelve = Stage(1, [(1, four)] * 3)
        self.assert_whole(Stage(1, [(1, twelve)]).ends(), 12)
        self.assert_refused(NoBox, Stage, 1, [(1, twelve), (1, End(1))])
        self.assert_refused(NoBox, Stage, 1, [(1, twelve), (1, twelve)])

    def test_a_refusal_changes_nothing(self):
        four = chain(4)
        before = (four.told(), four.ways(), four.caps())
        rows = [(1, four), (1, End(3))]
        self.assert_refused(NoBox, Stage, 1, rows)
        self.assertEqual(len(rows), 2)
        self.assertEqual((four.told(), four.ways(), four.caps()), before)


class NoBoxes(StandsTest):
    def test_boxes(self):
        for many in range(1, 7):
            self.assertIsNone(need_boxes([End(1)] * many))
            self.assertIsNone(need_boxes([doc_stand()] * many))
        self.assertIsNone(need_boxes([End(0), doc_stand(), chain(4), End(0), chain(1), End(7)]))

    def test_how_many(self):
        stage = doc_stand()
        for many in (0, 7, 8, 50):
            self.assert_refused(NoBox, need_boxes, [stage] * many)
            self.assert_refused(NoBox, need_boxes, [End(1)] * many)

    def test_things_of_all_kinds(self):
        for thing in wrong_things() + [0, 1, (End(1),), {0: End(1)}, {End(1): 0}, "boxes", (1, End(1))]:
            with self.subTest(type(thing).__name__):
                self.assert_refused(NoBox, need_boxes, thing)

    def test_a_box_of_another_kind(self):
        for thing in plain_things() + objects()[2:] + [0, 1, [End(1)], (1, End(1)), ("end", 1), chain(1).told()]:
            with self.subTest(type(thing).__name__):
                self.assert_refused(NoBox, need_boxes, [thing])
                self.assert_refused(NoBox, need_boxes, [End(1), thing])
                self.assert_refused(NoBox, need_boxes, [thing] + [chain(1)] * 5)

    def test_boxes_stay_as_they_were(self):
        boxes = [End(1), chain(2)]
        given = list(boxes)
        need_boxes(boxes)
        self.assertEqual(boxes, given)


if __name__ == "__main__":
    main()
