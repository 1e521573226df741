import random
from fractions import Fraction
from unittest import main

from lidprice.best import best, best_from, deed
from lidprice.cases import Case
from lidprice.desk import Desk
from lidprice.errors import LidError, NoDeed, NoPattern, NoText, TooMany
from lidprice.ledger import ledger
from lidprice.patterns import Few, Groups, Listed, flaw
from lidprice.plans import Open, Stop, Take
from lidprice.stands import End, Stage
from lidprice.texts import write_boxes, write_pattern
from tests.helper import ExactTest, behind, doc_stand, drawn_boxes, drawn_pattern, drawn_stand, next_deeds, wrong_things

DOC_BOXES = "3[2:10 1:5[1:0 1:40]] | 7 | 1[1:0 1:8]"
WIDE = "1[1:0[1:0 1:1 1:2] 1:0[1:5 1:6 1:7] 1:0[1:10 1:11 1:12] 1:0[1:15 1:16 1:17]]"


def written(fraction):
    number = Fraction(*fraction)
    return str(number)


def outcome(desk, row):
    """What a desk answers, or the class of its refusal with its fields."""
    try:
        return desk.say(row)
    except LidError as error:
        return (type(error).__name__, vars(error))


def questions():
    return ["best", "next", "price 0", "price 1", "price 5", "open 7 0", "take 9"]


def standing(desk):
    """What can be asked of a desk without changing anything."""
    return [outcome(desk, row) for row in questions()]


class Model:
    """What a desk has to answer, from boxes, patterns and deeds that were never written."""

    def __init__(self):
        self.boxes = None
        self.case = None

    def put(self, boxes):
        self.boxes = list(boxes)
        self.case = Case(boxes)
        self.pattern = Few(1)
        return f"ok {len(boxes)}"

    def put_pattern(self, pattern):
        if self.case is None or self.case.deeds():
            return ("NoDeed", {})
        found = flaw(pattern, len(self.boxes))
        if found is not None:
            return ("NoPattern", {"one": found[1], "other": found[2]})
        self.pattern = pattern
        return "ok"

    def ask(self, word, numbers=()):
        if self.case is None:
            return ("NoDeed", {})
        try:
            if word == "best":
                return written(best(self.boxes, self.pattern))
            if word == "next":
                return " ".join(str(part) for part in deed(self.pattern, self.case))
            if word == "price":
                return written(self.case.stand(numbers[0]).reserve())
            if word == "stop":
                return self.stop()
            return self.do((word,) + tuple(numbers))
        except NoDeed:
            return ("NoDeed", {})
        except TooMany as error:
            return ("TooMany", {"many": error.many})

    def do(self, deed_told):
        case = behind(self.case, deed_told)
        if deed_told[0] == "take" and not self.pattern.may(sum(1 << box for box in case.kept())):
            return ("NoDeed", {})
        self.case = case
        return f"had {case.had()}"

    def stop(self):
        case = self.case
        caps = sum(Fraction(*case.caps(box)[0][0]) for box in case.kept())
        missed = Fraction(*best_from(self.pattern, case)) - caps
        self.case = None
        return f"had {case.had()} left {written(case.left())} missed {missed}"


class DeskTest(ExactTest):
    def assert_talk(self, *talk):
        """A desk that is told the rows, one after another, answers so; a class stands for a refusal."""
        desk = Desk()
        for row, wanted in talk:
            if isinstance(wanted, str):
                found = desk.say(row)
                self.assertIs(type(found), str)
                self.assertEqual(found, wanted, row)
            else:
                self.assert_refused(wanted, desk.say, row)
        return desk

    def assert_unchanged(self, desk, error, row):
        before = standing(desk)
        found = self.assert_refused(error, desk.say, row)
        self.assertEqual(standing(desk), before)
        return found


class Talks(DeskTest):
    def test_a_whole_talk(self):
        self.assert_talk(
            ("boxes " + DOC_BOXES, "ok 3"), ("best", "59/6"), ("pattern few 2", "ok"), ("best", "97/6"),
            ("next", "open 0"), ("price 0", "12"), ("price 1", "7"), ("price 2", "6"), ("open 0 1", "had -3"),
            ("price 0", "30"), ("next", "open 0"), ("open 0 1", "had -8"), ("price 0", "40"), ("next", "take 0"),
            ("take 0", "had 32"), ("next", "take 1"), ("best", "97/6"), ("take 1", "had 39"), ("next", "stop"),
            ("stop", "had 39 left 0 missed 0"), ("best", NoDeed))

    def test_a_talk_that_loses(self):
        self.assert_talk(
            ("boxes " + DOC_BOXES, "ok 3"), ("open 2 1", "had -1"), ("open 0 1", "had -4"), ("take 1", "had 3"),
            ("next", "stop"), ("stop", "had 3 left 11 missed 5/2"))

    def test_a_stop_at_once(self):
        self.assert_talk(("boxes 3 | 5", "ok 2"), ("stop", "had 0 left 0 missed 5"))
        self.assert_talk(("boxes 1[1:0 1:8]", "ok 1"), ("stop", "had 0 left 0 missed 3"))
        self.assert_talk(("boxes 5[1:0 1:8]", "ok 1"), ("stop", "had 0 left 0 missed 0"))

    def test_fractions(self):
        self.assert_talk(("boxes 1[1:0 2:8]", "ok 1"), ("price 0", "13/2"), ("best", "13/3"), ("open 0 1", "had -1"),
                         ("stop", "had -1 left 3/2 missed 13/2"))
        self.assert_talk(("boxes 7[2:0 1:8]", "ok 1"), ("price 0", "-13/3"), ("best", "0"), ("next", "stop"),
                         ("open 0 0", "had -7"), ("stop", "had -7 left 13/3 missed 0"))

    def test_boxes_told_anew(self):
        self.assert_talk(
            ("boxes 3 | 5", "ok 2"), ("pattern few 2", "ok"), ("best", "8"), ("boxes 4", "ok 1"), ("best", "4"),
            ("price 1", NoDeed), ("take 0", "had 4"), ("boxes 3 | 5", "ok 2"), ("best", "5"), ("take 0", "had 3"),
            ("take 1", NoDeed), ("stop", "had 3 left 0 missed 2"), ("next", NoDeed), ("boxes 1 | 2 | 3", "ok 3"),
            ("next", "take 2"), ("best", "3"), ("pattern few 3", "ok"), ("best", "6"))

    def test_one_to_six_boxes(self):
        for many in range(1, 7):
            rows = " | ".join(str(box) for box in range(many))
            self.assert_talk(("boxes " + rows, f"ok {many}"), (f"price {many - 1}", str(many - 1)),
                             (f"price {many}", NoDeed), (f"take {many}", NoDeed), (f"open {many} 0", NoDeed))

    def test_patterns(self):
        self.assert_talk(
            ("boxes 3 | 5 | 4", "ok 3"), ("best", "5"), ("pattern groups 0 1 1 / 1 1 0 0 0 0", "ok"), ("best", "8"),
            ("pattern listed 0 1 2 4 3 5", NoText), ("best", "8"), ("pattern listed 0 1 2 3 4 5", "ok"), ("best", "8"),
            ("pattern few 3", "ok"), ("best", "12"), ("pattern few 0", "ok"), ("best", "0"), ("next", "stop"),
            ("take 0", NoDeed), ("pattern few 1", "ok"), ("take 0", "had 3"), ("pattern few 2", NoDeed),
            ("take 1", NoDeed), ("best", "5"))

    def test_pattern_behind_a_deed(self):
        for row in ("open 0 0", "take 1"):
            desk = self.assert_talk(("boxes 1[1:0 1:8] | 4", "ok 2"), ("best", "5"), ("next", "open 0"))
            desk.say(row)
            self.assert_unchanged(desk, NoDeed, "pattern few 2")
            self.assert_unchanged(desk, NoDeed, "pattern listed 1")
            self.assert_unchanged(desk, NoText, "pattern few 7")

    def test_pattern_behind_what_is_no_deed(self):
        self.assert_talk(("boxes 1[1:0 1:8] | 4", "ok 2"), ("best", "5"), ("next", "open 0"), ("price 0", "6"),
                         ("take 0", NoDeed), ("open 1 0", NoDeed), ("pattern few 2", "ok"), ("best", "7"))

    def test_best_is_of_the_boxes_as_they_were_put(self):
        self.assert_talk(("boxes " + DOC_BOXES, "ok 3"), ("best", "59/6"), ("open 0 1", "had -3"), ("best", "59/6"),
                         ("take 1", "had 4"), ("best", "59/6"))

    def test_next_for_however_many_unfoldings(self):
        self.assert_talk(("boxes " + " | ".join([WIDE] * 6), "ok 6"), ("pattern few 6", "ok"), ("next", "open 0"),
                         ("open 0 3", "had -1"), ("next", "open 0"), ("open 0 2", "had -1"), ("next", "take 0"),
                         ("take 0", "had 16"), ("next", "open 1"))

    def test_two_desks(self):
        one = Desk()
        other = Desk()
        self.assertEqual(one.say("boxes 3 | 5"), "ok 2")
        self.assert_refused(NoDeed, other.say, "best")
        self.assertEqual(other.say("boxes 9"), "ok 1")
        self.assertEqual(one.say("take 1"), "had 5")
        self.assertEqual(other.say("best"), "9")
        self.assertEqual(other.say("pattern few 0"), "ok")
        self.assertEqual(one.say("best"), "5")

    def test_the_same_rows_have_the_same_answers(self):
        rows = ["boxes " + DOC_BOXES, "pattern few 2", "next", "open 0 1", "next", "best", "open 2 0", "take 1", "stop"]
        one = Desk()
        other = Desk()
        self.assertEqual([one.say(row) for row in rows], [other.say(row) for row in rows])
        self.assertEqual([one.say(row) for row in rows], [other.say(row) for row in rows])


class WholeTalksAgainstAModel(DeskTest):
    def told_rows(self, source, boxes, model):
        """A row and what the model answers to it."""
        sort = source.random()
        if sort < 0.05:
            return "boxes " + write_boxes(boxes), model.put(boxes)
        if sort < 0.15:
            pattern = drawn_pattern(source, len(boxes)) if source.random() < 0.6 else Listed(
                sorted(source.sample(range(64), source.randrange(1, 12))))
            return "pattern " + write_pattern(pattern), model.put_pattern(pattern)
        if sort < 0.45:
            word = source.choice(("best", "next", "next", "next", "price"))
            numbers = [source.randrange(7)] if word == "price" else []
        elif sort < 0.48:
            word, numbers = "stop", []
        else:
            choice = next_deeds(model.case) if model.case and source.random() < 0.8 else []
            told = source.choice(choice) if choice else source.choice((
                ("open", source.randrange(7), source.randrange(5)), ("take", source.randrange(7))))
            word, numbers = told[0], list(told[1:])
        return " ".join([word] + [str(number) for number in numbers]), model.ask(word, numbers)

    def test_drawn_talks(self):
        source = random.Random(141)
        seen = {}
        for many in list(range(1, 7)) * 12:
            boxes = drawn_boxes(source, many)
            if source.random() < 0.4:
                boxes = [drawn_stand(source, 4, 12) for box in range(many)]
            desk = Desk()
            model = Model()
            for step in range(45):
                if step == 3:
                    row, wanted = "boxes " + write_boxes(boxes), model.put(boxes)
                elif step == 4 and source.random() < 0.7:
                    row, wanted = "pattern few 2", model.put_pattern(Few(2))
                else:
                    row, wanted = self.told_rows(source, boxes, model)
                self.assertEqual(outcome(desk, row), wanted, row)
                kind = wanted[0] if isinstance(wanted, tuple) else row.split(" ")[0]
                seen[kind] = seen.get(kind, 0) + 1
        for kind in ("boxes", "pattern", "best", "next", "price", "open", "take", "stop", "NoDeed", "NoPattern",
                     "TooMany"):
            self.assertGreater(seen.get(kind, 0), 2, kind)


class Stops(DeskTest):
    def test_each_row_behind_it(self):
        desk = self.assert_talk(("boxes 3 | 1[1:0 1:8]", "ok 2"), ("take 0", "had 3"),
                                ("stop", "had 3 left 0 missed 3/2"))
        for row in ("best", "next", "stop", "price 0", "take 1", "open 1 0", "pattern few 2", "pattern listed 1"):
            self.assert_unchanged(desk, NoDeed, row)
        for row in ("boxes", "boxes x", "pattern", "pattern few 9", "price", "price x", "open 1", "hello", "", None):
            self.assert_unchanged(desk, NoText, row)
        self.assertEqual(desk.say("boxes 3 | 5"), "ok 2")
        self.assertEqual(desk.say("best"), "5")

    def test_what_it_tells(self):
        # Behind the coin's 8, cap 6, that is not kept: 2 are left, and the 6 are missed.
        self.assert_talk(("boxes 1[1:0 1:8]", "ok 1"), ("open 0 1", "had -1"), ("stop", "had -1 left 2 missed 6"))
        self.assert_talk(("boxes 1[1:0 1:8]", "ok 1"), ("open 0 1", "had -1"), ("take 0", "had 7"),
                         ("stop", "had 7 left 0 missed 0"))
        self.assert_talk(("boxes 1[1:0 1:8] | 7", "ok 2"), ("open 0 0", "had -1"), ("take 0", "had -1"),
                         ("stop", "had -1 left 0 missed 7"))

    def test_like_the_row_of_a_ledger(self):
        boxes = [doc_stand(), End(7), Stage(1, [(1, End(0)), (1, End(8))])]
        plan = Open(2, [Stop(), Open(0, [Take(2, Stop()), Take(1, Stop())])])
        rows = ledger(boxes, Few(1), plan)
        desks = [(("open 2 0",), rows[0]), (("open 2 1", "open 0 0", "take 2"), rows[1]),
                 (("open 2 1", "open 0 1", "take 1"), rows[2])]
        for told, (way, part, had, left, missed) in desks:
            desk = Desk()
            desk.say("boxes " + DOC_BOXES)
            for row in told:
                desk.say(row)
            self.assertEqual(desk.say("stop"), f"had {had} left {written(left)} missed {written(missed)}")


class NoTexts(DeskTest):
    def wrong_rows(self):
        return [
            "", " ", "boxes", "boxes ", "boxes  1", " boxes 1", "boxes 1 ", "Boxes 1", "boxes x", "boxes 1 | ",
            "boxes 01",
            "boxes 1 | 2 | 3 | 4 | 5 | 6 | 7", "boxes 1000000001", "boxes 1[]", "boxes 1[1:1", "boxes\t1", "boxes1",
            "pattern", "pattern ", "pattern few", "pattern few 7", "pattern  few 1", "pattern few 1 ",
            "pattern listed 1 0",
            "pattern listed 64", "patterns few 1", "pattern 1", "best ", " best", "best 1", "best best", "BEST",
            "bests",
            "next ", "next 1", " next", "nex", "price", "price ", "price x", "price 00", "price 01", "price -1",
            "price +1",
            "price 1 2", "price  1", "price 1 ", "price 1000000000", "price 0000000000", "price 1.", "price 1/2",
            "open",
            "open ", "open 0", "open 0 ", "open 0  1", "open  0 1", "open 0 1 2", "open 0 01", "open 00 1", "open 0 -1",
            "open 0 x", "open x 0", "open 0 1 ", "open 0,1", "open 1000000000 0", "open 0 1000000000", "open 0/1",
            "open 0 /",
            "open 0 / 1", "take", "take ", "take 0 0", "take 0 stop", "take x", "take 00", "take -0", "take 1000000000",
            "take 0 ", "take  0", "stop ", " stop", "stop 0", "stopp", "stop\n", "best\n", "price 0\n", "hello",
            "had 3", "ok",
            "ok 3", "keep 0", "price " + "1" * 5000, "take \u0660", "open 0 \u00b2"]

    def test_rows_that_are_none(self):
        for row in self.wrong_rows():
            with self.subTest(row[:40]):
                self.assert_refused(NoText, Desk().say, row)
                desk = self.assert_talk(("boxes 1[1:0 1:8] | 4", "ok 2"), ("open 0 1", "had -1"))
                self.assert_unchanged(desk, NoText, row)
                self.assertEqual(desk.say("stop"), "had -1 left 2 missed 6")
                self.assert_refused(NoText, desk.say, row)

    def test_no_text_at_all(self):
        for thing in wrong_things() + [0, 1, ["best"], ("best",), {"best": 1}]:
            with self.subTest(type(thing).__name__):
                self.assert_refused(NoText, Desk().say, thing)
                desk = self.assert_talk(("boxes 3 | 5", "ok 2"))
                self.assert_unchanged(desk, NoText, thing)

    def test_numbers_of_nine_figures(self):
        desk = self.assert_talk(("boxes 1[1:0 1:8] | 4", "ok 2"))
        for row in ("price 999999999", "take 999999999", "open 999999999 0", "open 0 999999999", "open 0 100000000"):
            self.assert_unchanged(desk, NoDeed, row)
            self.assert_refused(NoDeed, Desk().say, row)


class NoDeeds(DeskTest):
    def test_no_boxes_yet(self):
        for row in ("best", "next", "stop", "price 0", "take 0", "open 0 0", "pattern few 2", "pattern listed 1"):
            desk = Desk()
            self.assert_refused(NoDeed, desk.say, row)
            self.assertEqual(desk.say("boxes 3"), "ok 1")

    def test_what_the_case_refuses(self):
        desk = self.assert_talk(("boxes 3[2:10 1:5[1:0 1:40]] | 7", "ok 2"), ("pattern few 2", "ok"))
        for row in ("price 2", "open 2 0", "open 0 2", "open 0 4", "open 1 0", "take 0", "take 2"):
            self.assert_unchanged(desk, NoDeed, row)
        desk.say("open 0 1")
        for row in ("open 0 2", "take 0", "open 1 0"):
            self.assert_unchanged(desk, NoDeed, row)
        desk.say("open 0 0")
        for row in ("open 0 0", "open 0 1"):
            self.assert_unchanged(desk, NoDeed, row)
        desk.say("take 0")
        for row in ("take 0", "open 0 0"):
            self.assert_unchanged(desk, NoDeed, row)
        self.assertEqual(desk.say("take 1"), "had -1")

    def test_a_set_that_the_pattern_has_not(self):
        desk = self.assert_talk(("boxes 3 | 5 | 4", "ok 3"), ("pattern groups 0 1 1 / 1 1 0 0 0 0", "ok"),
                                ("take 1", "had 5"))
        self.assert_unchanged(desk, NoDeed, "take 2")
        self.assertEqual(desk.say("take 0"), "had 8")
        self.assert_unchanged(desk, NoDeed, "take 2")
        self.assertEqual(desk.say("stop"), "had 8 left 0 missed 0")


class NoPatterns(DeskTest):
    def test_a_pattern_with_a_flaw(self):
        desk = self.assert_talk(("boxes 3 | 5 | 4", "ok 3"), ("pattern few 2", "ok"))
        for text, one, other in (("listed 1", 0, 0), ("listed 0 1 3", 3, 2), ("listed 0 1 2 3 4", 3, 4)):
            error = self.assert_unchanged(desk, NoPattern, "pattern " + text)
            self.assertEqual((error.one, error.other), (one, other))
        self.assertEqual(desk.say("best"), "9")

    def test_flaws_among_further_boxes_are_none(self):
        self.assert_talk(("boxes 3 | 5", "ok 2"), ("pattern listed 0 1 2 3 12", "ok"), ("best", "8"),
                         ("boxes 3 | 5 | 4 | 1", "ok 4"), ("pattern listed 0 1 2 3 12", NoPattern), ("best", "5"))

    def test_the_order_of_refusals(self):
        desk = Desk()
        self.assert_refused(NoText, desk.say, "pattern listed 1 0")
        self.assert_refused(NoDeed, desk.say, "pattern listed 1")
        desk.say("boxes 3 | 5")
        self.assert_refused(NoPattern, desk.say, "pattern listed 1")
        desk.say("take 0")
        self.assert_refused(NoDeed, desk.say, "pattern listed 1")
        self.assert_refused(NoText, desk.say, "pattern few 7")


class TooManyUnfoldings(DeskTest):
    def test_best(self):
        desk = self.assert_talk(("boxes " + " | ".join([WIDE] * 3), "ok 3"), ("pattern few 2", "ok"))
        error = self.assert_unchanged(desk, TooMany, "best")
        self.assert_whole(error.many, 1728)
        desk.say("open 0 0")
        desk.say("open 1 0")
        error = self.assert_unchanged(desk, TooMany, "best")
        self.assert_whole(error.many, 1728)

    def test_stop_goes_by_the_present_case(self):
        desk = self.assert_talk(("boxes " + " | ".join([WIDE] * 3), "ok 3"), ("pattern few 2", "ok"))
        error = self.assert_unchanged(desk, TooMany, "stop")
        self.assert_whole(error.many, 1728)
        desk.say("open 0 0")
        error = self.assert_unchanged(desk, TooMany, "stop")
        self.assert_whole(error.many, 432)
        self.assertEqual(desk.say("open 1 3"), "had -2")
        self.assertEqual(desk.say("stop").split(" ")[:3], ["had", "-2", "left"])
        self.assert_refused(NoDeed, desk.say, "stop")

    def test_with_one_kept_it_is_told_for_any(self):
        desk = self.assert_talk(("boxes " + " | ".join([WIDE] * 6), "ok 6"), ("next", "open 0"))
        wide = Stage(1, [(1, Stage(0, [(1, End(5 * row + inner)) for inner in range(3)])) for row in range(4)])
        wanted = best([wide] * 6, Few(1))
        self.assertEqual(desk.say("best"), written(wanted))
        self.assertEqual(desk.say("stop"), f"had 0 left 0 missed {written(wanted)}")

    def test_the_pattern_that_was_put_goes(self):
        self.assert_talk(("boxes " + " | ".join([WIDE] * 3), "ok 3"), ("pattern few 2", "ok"), ("best", TooMany),
                         ("pattern groups 0 0 0 / 1 0 0 0 0 0", "ok"), ("pattern listed 0 1 2 4 56", "ok"),
                         ("pattern few 3", "ok"), ("best", TooMany), ("stop", TooMany), ("pattern few 0", "ok"),
                         ("best", "0"), ("stop", "had 0 left 0 missed 0"))


class ManyFigures(DeskTest):
    def test_fractions_of_many_figures(self):
        source = random.Random(142)
        boxes = [Stage(source.randrange(10 ** 6), [
            (source.randrange(1, 1001), Stage(source.randrange(10 ** 6), [
                (source.randrange(1, 1001), End(source.randrange(10 ** 9))) for inner in range(3)]))
            for row in range(4)]) for box in range(6)]
        desk = Desk()
        desk.say("boxes " + write_boxes(boxes))
        found = desk.say("best")
        self.assertGreater(len(found), 60)
        self.assertEqual(found, written(best(boxes, Few(1))))
        self.assertEqual(desk.say("price 3"), written(boxes[3].reserve()))

    def test_patterns_of_each_sort(self):
        for pattern in (Few(2), Groups([0, 1, 0], [1, 1, 0, 0, 0, 0]), Listed([0, 1, 2, 4, 3])):
            wanted = "ok" if flaw(pattern, 3) is None else NoPattern
            self.assert_talk(("boxes 1 | 2 | 3", "ok 3"), ("pattern " + write_pattern(pattern), wanted))


if __name__ == "__main__":
    main()
