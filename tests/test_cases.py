import copy
import random
from fractions import Fraction
from unittest import main

from lidprice.cases import Case
from lidprice.errors import NoBox, NoDeed
from lidprice.stands import End, Stage
from lidprice.tables import above
from tests.helper import (TOP_WORTH, ExactTest, behind, chain, doc_stand, drawn_stand, known_cap, known_caps,
                          known_reserve, next_deeds, objects, plain_things, table_by, told, wrong_things)


class Known:
    """What is known of a case, replayed from the boxes told in full and the deeds alone."""

    def __init__(self, boxes, deeds):
        self.tops = [box.told() for box in boxes]
        self.rows = [() for box in boxes]
        self.kept = []
        self.paid = 0
        for deed in deeds:
            if deed[0] == "take":
                self.kept.append(deed[1])
            else:
                self.paid += self.present(deed[1])[1]
                self.rows[deed[1]] += (deed[2],)

    def passed(self, box):
        """The stands of a box that were opened, from the top, and the present one behind them."""
        stands = [self.tops[box]]
        for row in self.rows[box]:
            stands.append(stands[-1][2][row][1])
        return stands

    def present(self, box):
        return self.passed(box)[-1]

    def cap(self, box):
        return min((known_reserve(stand) for stand in self.passed(box)[:-1]), default=None)

    def caps(self, box):
        cap = self.cap(box)
        return [(own if cap is None else min(own, cap), part) for own, part in known_caps(self.present(box))]

    def debt(self, box):
        cap = self.cap(box)
        if cap is None:
            return Fraction(0)
        return sum((part * max(own - cap, 0) for own, part in known_caps(self.present(box))), Fraction(0))

    def left(self):
        return sum((self.debt(box) for box in range(len(self.tops)) if box not in self.kept), Fraction(0))

    def had(self):
        return sum(self.present(box)[1] for box in self.kept) - self.paid


def boxes_for_games(source, many):
    if source.random() < 0.2:
        return [drawn_stand(source, 3, 6, TOP_WORTH, TOP_WORTH // 8, 1000) for box in range(many)]
    return [drawn_stand(source, source.randrange(5), 8) for box in range(many)]


def drawn_games(seed, many):
    """Boxes, and the cases that come of them by deeds in an order that is drawn, till there is no deed more."""
    source = random.Random(seed)
    for game in range(many):
        boxes = boxes_for_games(source, 1 + game % 6)
        cases = [Case(boxes)]
        while next_deeds(cases[-1]):
            cases.append(behind(cases[-1], source.choice(next_deeds(cases[-1]))))
        yield boxes, cases


def everything(case):
    boxes = range(case.how_many())
    of_boxes = [(case.stand(box).told(), case.cap(box), case.caps(box), case.debt(box)) for box in boxes]
    return copy.deepcopy((of_boxes, case.kept(), case.paid(), case.had(), case.deeds(), case.left()))


class CasesTest(ExactTest):
    def assert_known(self, case, known):
        self.assert_whole(case.how_many(), len(known.tops))
        for box in range(len(known.tops)):
            self.assertEqual(case.stand(box).told(), known.present(box))
            if known.cap(box) is None:
                self.assertIsNone(case.cap(box))
            else:
                self.assert_fraction(case.cap(box), known.cap(box))
            self.assertEqual(case.caps(box), table_by(known.caps(box)))
            self.assert_fraction(case.debt(box), known.debt(box))
        self.assertIs(type(case.kept()), list)
        self.assertEqual(case.kept(), sorted(known.kept))
        self.assert_whole(case.paid(), known.paid)
        self.assert_whole(case.had(), known.had())
        self.assert_fraction(case.left(), known.left())


class FirstCase(CasesTest):
    def test_written_out(self):
        case = Case([doc_stand(), End(7)])
        self.assert_whole(case.how_many(), 2)
        self.assertEqual(case.stand(0).told(), doc_stand().told())
        self.assertEqual(case.stand(1).told(), ("end", 7))
        self.assertIsNone(case.cap(0))
        self.assertIsNone(case.cap(1))
        self.assertEqual(case.kept(), [])
        self.assert_whole(case.paid(), 0)
        self.assert_whole(case.had(), 0)
        self.assertEqual(case.deeds(), [])
        self.assertEqual(case.caps(0), [((0, 1), 1), ((10, 1), 4), ((12, 1), 1)])
        self.assertEqual(case.caps(1), [((7, 1), 1)])
        self.assertEqual(case.debt(0), (0, 1))
        self.assertEqual(case.debt(1), (0, 1))
        self.assertEqual(case.left(), (0, 1))

    def test_one_to_six_boxes(self):
        for many in range(1, 7):
            case = Case([chain(1)] * many)
            self.assert_whole(case.how_many(), many)
            self.assert_known(case, Known([chain(1)] * many, []))

    def test_drawn_ones(self):
        for boxes, cases in drawn_games(31, 30):
            self.assert_known(cases[0], Known(boxes, []))
            self.assertEqual(cases[0].deeds(), [])


class Deeds(CasesTest):
    def test_written_out(self):
        case = Case([doc_stand(), End(7)]).opened(0, 1)
        self.assertEqual(case.stand(0).told(), ("stage", 5, ((1, ("end", 0)), (1, ("end", 40)))))
        self.assertEqual(case.cap(0), (12, 1))
        self.assertIsNone(case.cap(1))
        self.assertEqual(case.caps(0), [((0, 1), 1), ((12, 1), 1)])
        self.assertEqual(case.debt(0), (9, 1))
        self.assertEqual(case.left(), (9, 1))
        self.assertEqual((case.paid(), case.had()), (3, -3))
        case = case.opened(0, 1)
        self.assertEqual(case.stand(0).told(), ("end", 40))
        self.assertEqual(case.cap(0), (12, 1))
        self.assertEqual(case.caps(0), [((12, 1), 1)])
        self.assertEqual(case.debt(0), (28, 1))
        self.assertEqual((case.paid(), case.had()), (8, -8))
        self.assertEqual(case.left(), (28, 1))
        case = case.taken(0)
        self.assertEqual(case.kept(), [0])
        self.assertEqual(case.caps(0), [((12, 1), 1)])
        self.assertEqual(case.debt(0), (28, 1))
        self.assertEqual(case.left(), (0, 1))
        self.assertEqual((case.paid(), case.had()), (8, 32))
        case = case.taken(1)
        self.assertEqual(case.kept(), [0, 1])
        self.assertEqual((case.paid(), case.had()), (8, 39))
        self.assertEqual(case.deeds(), [("open", 0, 1), ("open", 0, 1), ("take", 0), ("take", 1)])

    def test_the_other_rows(self):
        case = Case([doc_stand()])
        self.assertEqual(case.opened(0, 0).debt(0), (0, 1))
        self.assertEqual(case.opened(0, 0).caps(0), [((10, 1), 1)])
        low = case.opened(0, 1).opened(0, 0)
        self.assertEqual((low.cap(0), low.debt(0), low.caps(0)), ((12, 1), (0, 1), [((0, 1), 1)]))

    def test_the_cap_is_the_least_reserve_so_far(self):
        inner = Stage(1, [(1, End(9)), (1, End(1))])
        outer = Stage(0, [(1, inner), (1, End(20))])
        case = Case([outer])
        self.assertEqual(case.stand(0).reserve(), (20, 1))
        self.assertEqual(case.opened(0, 0).cap(0), (20, 1))
        self.assertEqual(case.opened(0, 0).opened(0, 0).cap(0), (7, 1))
        self.assertEqual(case.opened(0, 0).opened(0, 0).debt(0), (2, 1))
        lower = Stage(5, [(1, inner)])
        self.assertEqual(Case([lower]).opened(0, 0).opened(0, 0).cap(0), Case([lower]).opened(0, 0).cap(0))

    def test_reserves_below_nought(self):
        case = Case([Stage(3, [(1, End(4)), (1, End(0))])])
        self.assertEqual(case.opened(0, 1).cap(0), (-1, 1))
        self.assertEqual(case.opened(0, 1).caps(0), [((-1, 1), 1)])
        self.assertEqual(case.opened(0, 1).debt(0), (1, 1))
        self.assertEqual(case.opened(0, 0).debt(0), (5, 1))

    def test_the_price_nought(self):
        case = Case([Stage(0, [(1, End(4)), (1, End(0))])]).opened(0, 0)
        self.assertEqual((case.paid(), case.had(), case.cap(0), case.debt(0)), (0, 0, (4, 1), (0, 1)))

    def test_an_end_is_kept_without_opening(self):
        case = Case([chain(1), End(0), End(TOP_WORTH)])
        kept = case.taken(2).taken(1)
        self.assertEqual(kept.kept(), [1, 2])
        self.assertEqual(kept.deeds(), [("take", 2), ("take", 1)])
        self.assertEqual((kept.paid(), kept.had()), (0, TOP_WORTH))
        for box in (1, 2):
            self.assertIsNone(kept.cap(box))
            self.assertEqual(kept.debt(box), (0, 1))
        self.assertEqual(kept.caps(2), [((TOP_WORTH, 1), 1)])

    def test_one_stand_as_several_boxes(self):
        coin = Stage(1, [(1, End(0)), (1, End(8))])
        case = Case([coin, coin, coin]).opened(1, 1).opened(0, 0).taken(1)
        self.assertEqual([case.stand(box).told() for box in range(3)], [("end", 0), ("end", 8), coin.told()])
        self.assertEqual([case.cap(box) for box in range(3)], [(6, 1), (6, 1), None])
        self.assertEqual(case.kept(), [1])
        self.assertEqual((case.paid(), case.had(), case.left()), (2, 6, (0, 1)))

    def test_a_kept_box_is_not_left(self):
        coin = Stage(1, [(1, End(0)), (1, End(8))])
        case = Case([coin, coin]).opened(0, 1).opened(1, 1)
        self.assertEqual(case.left(), (4, 1))
        self.assertEqual(case.taken(0).left(), (2, 1))
        self.assertEqual(case.taken(0).debt(0), (2, 1))
        self.assertEqual(case.taken(0).taken(1).left(), (0, 1))

    def test_drawn_games(self):
        for boxes, cases in drawn_games(32, 60):
            deeds = cases[-1].deeds()
            self.assertEqual(len(deeds), len(cases) - 1)
            for many, case in enumerate(cases):
                self.assertIs(type(case), Case)
                self.assertIs(type(case.deeds()), list)
                self.assertEqual(case.deeds(), deeds[:many])
                self.assert_known(case, Known(boxes, deeds[:many]))
            for deed in deeds:
                self.assertEqual([type(part) for part in deed], [str] + [int] * (len(deed) - 1))
                self.assertEqual(len(deed), {"open": 3, "take": 2}[deed[0]])

    def test_in_any_order(self):
        source = random.Random(33)
        for boxes, cases in drawn_games(34, 30):
            deeds = cases[-1].deeds()
            by_box = [[deed for deed in deeds if deed[1] == box] for box in range(len(boxes))]
            case = Case(boxes)
            order = [deed[1] for deed in deeds]
            source.shuffle(order)
            for box in order:
                case = behind(case, by_box[box].pop(0))
            self.assertEqual(everything(case)[:4], everything(cases[-1])[:4])
            self.assertEqual([deed[1] for deed in case.deeds()], order)

    def test_the_cap_of_the_way(self):
        for boxes, cases in drawn_games(35, 40):
            for box, top in enumerate(boxes):
                way = tuple(deed[2] for deed in cases[-1].deeds() if deed[:2] == ("open", box))
                self.assertEqual(cases[-1].caps(box), [(told(known_cap(top.told(), way)), 1)])
                self.assertIn(way, [row[0] for row in top.ways() if row[2] == cases[-1].caps(box)[0][0]])


class Debts(CasesTest):
    def test_the_price_is_what_the_debt_grows_by(self):
        looked_at = 0
        for boxes, cases in drawn_games(36, 60):
            for case in cases:
                for box in range(case.how_many()):
                    stage = case.stand(box)
                    self.assertGreaterEqual(case.debt(box)[0], 0)
                    if stage.is_end():
                        continue
                    looked_at += 1
                    mean = sum(Fraction(*stage.row_share(row)) * Fraction(*case.opened(box, row).debt(box))
                               for row in range(len(stage.rows)))
                    self.assertEqual(mean - Fraction(*case.debt(box)), stage.price)
        self.assertGreater(looked_at, 300)

    def test_what_the_caps_have_above_the_cap(self):
        for boxes, cases in drawn_games(37, 20):
            for case in cases:
                for box in range(case.how_many()):
                    if case.cap(box) is not None:
                        self.assertEqual(case.debt(box), above(case.stand(box).caps(), case.cap(box)))


class Own(CasesTest):
    """Each case stays as it was, and what is told is the asker's own."""

    def test_cases_stay_behind_every_deed(self):
        for boxes, cases in drawn_games(38, 20):
            before = [everything(case) for case in cases]
            for case in cases:
                for deed in next_deeds(case):
                    self.assertIsNot(behind(case, deed), case)
            self.assertEqual([everything(case) for case in cases], before)

    def test_two_cases_of_one(self):
        first = Case([doc_stand(), doc_stand()])
        one = first.opened(0, 0)
        other = first.opened(0, 1)
        third = one.taken(0)
        self.assertEqual(one.kept(), [])
        self.assertEqual(first.deeds(), [])
        self.assertEqual([case.stand(0).is_end() for case in (first, one, other, third)], [False, True, False, True])
        self.assertEqual([case.deeds() for case in (one, other, third)],
                         [[("open", 0, 0)], [("open", 0, 1)], [("open", 0, 0), ("take", 0)]])
        self.assertEqual([case.had() for case in (first, one, other, third)], [0, -3, -3, 7])

    def test_lists_told_may_be_changed(self):
        for boxes, cases in drawn_games(39, 12):
            for case in cases:
                before = everything(case)
                asks = [case.kept, case.deeds]
                asks.extend(lambda box=box: case.caps(box) for box in range(case.how_many()))
                for ask in asks:
                    found = ask()
                    found.append(0)
                    found[0] = None
                    self.assertEqual(everything(case), before)
                    found.clear()
                    self.assertEqual(everything(case), before)

    def test_lists_told_change_no_stand_and_no_later_case(self):
        top = doc_stand()
        case = Case([top])
        case.caps(0).clear()
        self.assertEqual(top.caps(), doc_stand().caps())
        case.deeds().append(("take", 0))
        case.kept().append(0)
        later = case.opened(0, 0)
        self.assertEqual((later.deeds(), later.kept()), ([("open", 0, 0)], []))
        later.deeds().clear()
        self.assertEqual(later.taken(0).deeds(), [("open", 0, 0), ("take", 0)])

    def test_boxes_handed_in(self):
        boxes = [doc_stand(), End(3)]
        given = list(boxes)
        case = Case(boxes)
        before = everything(case)
        case.opened(0, 1).taken(1)
        self.assertEqual(boxes, given)
        self.assertEqual(boxes[0].told(), doc_stand().told())
        boxes[0] = End(1)
        boxes.append(End(2))
        self.assertEqual(everything(case), before)
        boxes.clear()
        self.assertEqual(everything(case), before)
        self.assertEqual(case.opened(0, 0).how_many(), 2)


class NoBoxes(CasesTest):
    def test_things_of_all_kinds(self):
        for thing in wrong_things() + [0, (End(1),), {0: End(1)}, "boxes"]:
            with self.subTest(type(thing).__name__):
                self.assert_refused(NoBox, Case, thing)

    def test_how_many(self):
        for many in (0, 7, 8):
            self.assert_refused(NoBox, Case, [End(1)] * many)

    def test_a_box_of_another_kind(self):
        for thing in plain_things() + objects()[2:] + [0, 1, ("end", 1), [End(1)]]:
            with self.subTest(type(thing).__name__):
                self.assert_refused(NoBox, Case, [thing])
                self.assert_refused(NoBox, Case, [End(1), chain(1), thing])


class NoDeeds(CasesTest):
    def cases(self):
        first = Case([doc_stand(), End(7)])
        return [first, first.opened(0, 1), first.opened(0, 0).taken(0), first.taken(1)]

    def test_the_number_of_no_box(self):
        for case in self.cases():
            before = everything(case)
            for thing in wrong_things() + [2, 3, 6, -1, -2, -3]:
                with self.subTest(type(thing).__name__):
                    for ask in (case.stand, case.cap, case.caps, case.debt, case.taken):
                        self.assert_refused(NoDeed, ask, thing)
                    for row in (0, 1, -1, None):
                        self.assert_refused(NoDeed, case.opened, thing, row)
            self.assertEqual(everything(case), before)

    def test_numbers_by_how_many_boxes(self):
        for many in range(1, 7):
            case = Case([chain(1)] * many)
            for box in range(many):
                self.assertIsNone(case.cap(box))
                self.assertEqual(case.opened(box, 0).deeds(), [("open", box, 0)])
            for box in (many, many + 1, -1, -many):
                for ask in (case.stand, case.cap, case.caps, case.debt, case.taken):
                    self.assert_refused(NoDeed, ask, box)
                self.assert_refused(NoDeed, case.opened, box, 0)

    def test_the_number_of_no_row(self):
        for many in range(1, 5):
            case = Case([End(1), Stage(1, [(1, chain(1))] * many)])
            before = everything(case)
            for thing in wrong_things() + [many, many + 1, 5, -1, -many]:
                with self.subTest(type(thing).__name__):
                    self.assert_refused(NoDeed, case.opened, 1, thing)
            for row in range(many):
                self.assertEqual(case.opened(1, row).deeds(), [("open", 1, row)])
                self.assert_refused(NoDeed, case.opened(1, row).opened, 1, 1)
            self.assertEqual(everything(case), before)

    def test_to_open_an_end(self):
        case = Case([chain(1), End(1)])
        for row in (0, 1, -1, None, True):
            self.assert_refused(NoDeed, case.opened, 1, row)
            self.assert_refused(NoDeed, case.opened(0, 0).opened, 0, row)
            self.assert_refused(NoDeed, case.taken(1).opened, 1, row)
            self.assert_refused(NoDeed, case.opened(0, 0).taken(0).opened, 0, row)

    def test_to_keep_a_stage(self):
        case = Case([chain(2), End(1)])
        self.assert_refused(NoDeed, case.taken, 0)
        self.assert_refused(NoDeed, case.opened(0, 0).taken, 0)
        self.assertEqual(case.opened(0, 0).opened(0, 0).taken(0).kept(), [0])

    def test_to_keep_a_box_again(self):
        case = Case([chain(1), End(1)]).taken(1)
        before = everything(case)
        self.assert_refused(NoDeed, case.taken, 1)
        self.assert_refused(NoDeed, case.opened(0, 0).taken, 1)
        self.assert_refused(NoDeed, case.opened(0, 0).taken(0).taken, 0)
        self.assertEqual(everything(case), before)


if __name__ == "__main__":
    main()
