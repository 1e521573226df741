import random
import re
from unittest import main

from lidprice.cases import Case
from lidprice.errors import NoText
from lidprice.patterns import Few, Groups, Listed
from lidprice.plans import Open, Plan, Stop, Take
from lidprice.stands import End, Stage
from lidprice.texts import (read_box, read_boxes, read_pattern, read_plan, write_box, write_boxes, write_pattern,
                            write_plan, write_share)
from tests.helper import (LONG, TOP_WORTH, ExactTest, chain, doc_stand, drawn_boxes, drawn_pattern, drawn_plan,
                          drawn_stand, wrong_things)

SIGNS = "0123456789 []:|,/()-+abstopenkx.\n"
NUMBER = "(?:0|[1-9][0-9]*)"


def stand_form(stages):
    """What a stand of at most so many stages on a way is written like, but for its bounds."""
    if stages == 0:
        return NUMBER
    row = f"{NUMBER}:{stand_form(stages - 1)}"
    return f"{NUMBER}(?:\\[{row}(?: {row}){{0,3}}\\])?"


STAND = re.compile(stand_form(4))


def is_box_text(text):
    if not STAND.fullmatch(text):
        return False
    weights = re.findall("([0-9]+):", text)
    worths = re.findall("([0-9]+)(?![0-9:\\[])", text)
    prices = re.findall("([0-9]+)\\[", text)
    if len(worths) > 12 or not all(1 <= int(weight) <= 1000 for weight in weights):
        return False
    return all(int(number) <= TOP_WORTH for number in worths + prices)


def is_boxes_text(text):
    parts = text.split(" | ")
    return len(parts) <= 6 and all(is_box_text(part) for part in parts)


def is_pattern_text(text):
    one = "(?:0|[1-9][0-9]?)"
    match = re.fullmatch(f"few ({one})", text)
    if match:
        return int(match[1]) <= 6
    match = re.fullmatch(f"groups ({one}(?: {one}){{0,5}}) / ({one}(?: {one}){{5}})", text)
    if match:
        groups = [int(number) for number in match[1].split(" ")]
        return max(groups) <= 5 and max(int(number) for number in match[2].split(" ")) <= 6
    match = re.fullmatch(f"listed ({one}(?: {one})*)", text)
    if not match:
        return False
    sets = [int(number) for number in match[1].split(" ")]
    return sets == sorted(set(sets)) and sets[-1] <= 63


def is_plan_text(text):
    """By putting, from the stops on, how many knots are on a way in the place of each plan."""
    if "<" in text:
        return False
    text = re.sub("stop", "<1>", text)
    while True:
        less = re.sub("take [0-5] <([0-9]+)>", lambda match: f"<{int(match[1]) + 1}>", text)
        less = re.sub("open [0-5] \\(<[0-9]+>(?:, <[0-9]+>){0,3}\\)",
                      lambda match: f"<{max(int(own) for own in re.findall('<([0-9]+)>', match[0])) + 1}>", less)
        if less == text:
            break
        text = less
    match = re.fullmatch("<([0-9]+)>", text)
    return bool(match) and int(match[1]) <= 40


def with_a_sign_changed(source, text):
    place = source.randrange(len(text) + 1)
    sign = source.choice(SIGNS)
    return source.choice((text[:place] + text[place + 1:], text[:place] + sign + text[place:],
                          text[:place] + sign + text[place + 1:], text[:place] + text[place - 1:]))


def taking(knots):
    """A plan of so many knots on its one way."""
    plan = Stop()
    for knot in range(knots - 1):
        plan = Take(knot % 6, plan) if knot % 3 else Open(knot % 6, [plan])
    return plan


class TextsTest(ExactTest):
    def assert_no_text(self, ask, *texts):
        for text in texts:
            with self.subTest(repr(text)[:60]):
                self.assert_refused(NoText, ask, text)

    def assert_read_or_refused(self, read, write, is_text, text):
        """Just the texts by which something is written are read."""
        if is_text(text):
            self.assertEqual(write(read(text)), text)
        else:
            self.assert_no_text(read, text)

    def assert_around(self, source, read, write, is_text, text, many):
        """As many texts as told that lie around one by which something is written."""
        self.assertTrue(is_text(text))
        for one in range(many):
            other = text
            for step in range(source.choice((1, 1, 2, 3))):
                other = with_a_sign_changed(source, other)
            self.assert_read_or_refused(read, write, is_text, other)

    def assert_cuts(self, read, write, is_text, text):
        """The text with each sign left out, doubled, and cut off there."""
        for place in range(len(text)):
            for other in (text[:place] + text[place + 1:], text[:place] + text[place] + text[place:], text[:place],
                          text[place + 1:], text[:place] + " " + text[place:]):
                self.assert_read_or_refused(read, write, is_text, other)


class Boxes(TextsTest):
    def test_written_out(self):
        self.assertEqual(write_box(doc_stand()), "3[2:10 1:5[1:0 1:40]]")
        self.assertEqual(write_box(End(0)), "0")
        self.assertEqual(write_box(End(TOP_WORTH)), "1000000000")
        self.assertEqual(write_box(Stage(0, [(1000, End(7))])), "0[1000:7]")
        self.assertEqual(write_boxes([doc_stand(), End(7)]), "3[2:10 1:5[1:0 1:40]] | 7")
        self.assertEqual(write_boxes([End(7)]), "7")

    def test_read_out(self):
        self.assertEqual(read_box("3[2:10 1:5[1:0 1:40]]").told(), doc_stand().told())
        self.assertEqual(read_box("0").told(), ("end", 0))
        found = read_boxes("3[2:10 1:5[1:0 1:40]] | 7 | 0[1:1]")
        self.assertIs(type(found), list)
        self.assertEqual([stand.told() for stand in found], [doc_stand().told(), ("end", 7), chain(1, 0, 1).told()])
        self.assertIs(type(read_box("5")), End)
        self.assertIs(type(read_box("5[1:1]")), Stage)

    def test_what_is_written_is_read_again(self):
        source = random.Random(131)
        for one in range(60):
            stand = drawn_stand(source, 4, 12, *source.choice(((12, 6, 5), (TOP_WORTH, TOP_WORTH, 1000))))
            text = write_box(stand)
            self.assertTrue(is_box_text(text))
            self.assertEqual(read_box(text).told(), stand.told())
            self.assertEqual([box.told() for box in read_boxes(text)], [stand.told()])
        for many in list(range(1, 7)) * 6:
            boxes = [drawn_stand(source) for box in range(many)]
            self.assertEqual([box.told() for box in read_boxes(write_boxes(boxes))], [box.told() for box in boxes])

    def test_at_the_bounds(self):
        for text in ("1000000000", "1000000000[1000:1000000000]", "0[1:0]", "1[1:1[1:1[1:1[1:1]]]]",
                     "1[1:1 1:2 1:3 1:4]", "0[1:0[1:0 1:1 1:2] 1:0[1:0 1:1 1:2] 1:0[1:0 1:1 1:2] 1:0[1:0 1:1 1:2]]"):
            self.assertTrue(is_box_text(text))
            self.assertEqual(write_box(read_box(text)), text)
        self.assertEqual(len(read_boxes("1 | 2 | 3 | 4 | 5 | 6")), 6)

    def test_beyond_the_bounds(self):
        twelve = "0[1:0 1:1 1:2] 1:" * 3
        texts = ["1000000001", "9999999999", "10000000000", "9" * 5000, "1000000001[1:1]", "1[1001:1]", "1[0:1]",
                 "1[1:1000000001]", "1[1:1 1:2 1:3 1:4 1:5]", "1[1:1[1:1[1:1[1:1[1:1]]]]]",
                 "0[1:" + twelve + "0[1:0 1:1 1:2 1:3]]", "1[]", "[1:1]", "1[1]", "1[1:]", "1[:1]", "1[1:1", "1]", "1[",
                 "1[1:1]]", "1[[1:1]]"]
        self.assert_no_text(read_box, *texts)
        self.assert_no_text(read_boxes, *texts)
        self.assert_no_text(read_boxes, *["1 | " + text for text in texts])
        self.assert_no_text(read_boxes, "1 | 2 | 3 | 4 | 5 | 6 | 7", "", " | ", "1 | ", " | 1", "1 |2", "1| 2", "1|2",
                            "1  | 2", "1 |  2", "1 | | 2", "1 || 2", "1 2", "1 , 2", "1, 2")

    def test_no_box(self):
        self.assert_no_text(read_box, "", " ", "1 ", " 1", "1 | 2", "1 |", "| 1", "-1", "+1", "01", "00", "0 1", "1.",
                            "1.0",
                            "1e3", "x", "1x", "1_000", "1,000", "0x1", "1\n", "\n1", "\t1", "1/2", "ten",
                            "1[2:10 1:05]",
                            "03[2:10]", "3[02:10]", "3[2:10  1:5]", "3[ 2:10]", "3[2:10 ]", "3[2 :10]", "3[2: 10]",
                            "3 [2:10]", "3[2:10,1:5]", "3[2:10, 1:5]", "3[2:10;1:5]", "3(2:10)", "3{2:10}", "3[2-10]",
                            "3[2:10 1:5[1:0 1:40]", "3[2:10 1:5[1:0 1:40]]]", "3[2:-10]", "-3[2:10]", "3[-2:10]",
                            "3[2:+10]")

    def test_figures_that_are_not_of_ten(self):
        self.assert_no_text(read_box, "\u0663", "\u00b2", "\uff11", "1\u0663", "3[\u0662:10]", "\u0967", "\u2460")
        self.assert_no_text(read_boxes, "1 | \u0663")
        self.assert_no_text(read_pattern, "few \u0661", "listed \u0660", "groups \u0660 / 1 1 1 1 1 1")
        self.assert_no_text(read_plan, "take \u0660 stop", "open \u0660 (stop)")

    def test_texts_around(self):
        source = random.Random(132)
        for one in range(25):
            stand = drawn_stand(source, 4, 12, *source.choice(((12, 6, 5), (TOP_WORTH, TOP_WORTH, 1000))))
            self.assert_around(source, read_box, write_box, is_box_text, write_box(stand), 60)
        for many in list(range(1, 7)) * 3:
            boxes = [drawn_stand(source, 2, 4) for box in range(many)]
            self.assert_around(source, read_boxes, write_boxes, is_boxes_text, write_boxes(boxes), 60)

    def test_cuts(self):
        self.assert_cuts(read_box, write_box, is_box_text, "3[2:10 1:5[1:0 1:40]]")
        self.assert_cuts(read_boxes, write_boxes, is_boxes_text, "3[2:10 1:5] | 7 | 0[1:1]")

    def test_deep_and_long_texts(self):
        self.assert_no_text(read_box, "1[1:" * 2500, "1[1:" * 1200 + "1" + "]" * 1200, "[" * 10000,
                            "1[1:1" + " 1:1" * 2000,
                            "1[1:1 1:" * 1200, "1[1:1 1:2 1:3 1:" * 600, "1[1:1 1:" * 800 + "1" + "]" * 800)
        self.assert_no_text(read_boxes, "1 | " * 2500, "1[1:" * 2500, "1" * 10000, "1 | " * 2000 + "1", " " * 10000)

    def test_boxes_stay(self):
        boxes = [doc_stand(), End(7)]
        given = list(boxes)
        self.assertEqual(write_boxes(boxes), write_boxes(boxes))
        self.assertEqual(boxes, given)
        found = read_boxes("1 | 2")
        found.clear()
        self.assertEqual(len(read_boxes("1 | 2")), 2)


class Patterns(TextsTest):
    def test_written_out(self):
        self.assertEqual(write_pattern(Few(2)), "few 2")
        self.assertEqual(write_pattern(Groups([0, 1, 1], [1, 2, 0, 0, 0, 0])), "groups 0 1 1 / 1 2 0 0 0 0")
        self.assertEqual(write_pattern(Listed([2, 0, 4, 1])), "listed 0 1 2 4")
        self.assertEqual(write_pattern(Listed(list(range(64)))), "listed " + " ".join(str(kept) for kept in range(64)))

    def test_read_out(self):
        for text, told in (("few 0", ("few", 0)), ("few 6", ("few", 6)), ("listed 0", ("listed", (0,))),
                           ("groups 0 1 1 / 1 2 0 0 0 0", ("groups", (0, 1, 1), (1, 2, 0, 0, 0, 0))),
                           ("listed 63", ("listed", (63,))), ("listed 0 1 2 4", ("listed", (0, 1, 2, 4)))):
            self.assertEqual(read_pattern(text).told(), told)
        self.assertIs(type(read_pattern("few 2")), Few)
        self.assertIs(type(read_pattern("groups 5 / 6 6 6 6 6 6")), Groups)
        self.assertIs(type(read_pattern("listed 1 3")), Listed)

    def test_what_is_written_is_read_again(self):
        source = random.Random(133)
        patterns = [Few(count) for count in range(7)] + [drawn_pattern(source, many) for many in [1, 2, 3, 4, 5, 6] * 8]
        patterns += [Groups([source.randrange(6) for box in range(many)], [source.randrange(7) for group in range(6)])
                     for many in range(1, 7)]
        patterns += [Listed(source.sample(range(64), many)) for many in (1, 2, 10, 63, 64)]
        for pattern in patterns:
            text = write_pattern(pattern)
            self.assertTrue(is_pattern_text(text))
            self.assertEqual(read_pattern(text).told(), pattern.told())

    def test_a_flaw_is_no_matter(self):
        self.assertEqual(read_pattern("listed 3").told(), ("listed", (3,)))

    def test_no_pattern(self):
        self.assert_no_text(
            read_pattern, "", " ", "few", "few ", "few 7", "few 10", "few -1", "few 01", "few  1", " few 1", "few 1 ",
            "few 1 2", "Few 1", "few1", "few x", "fewer 1", "groups", "groups ", "groups 0", "groups 0 /",
            "groups 0 / ",
            "groups / 1 1 1 1 1 1", "groups  / 1 1 1 1 1 1", "groups 6 / 1 1 1 1 1 1", "groups 0 / 1 1 1 1 1",
            "groups 0 / 1 1 1 1 1 1 1", "groups 0 / 7 1 1 1 1 1", "groups 0 0 0 0 0 0 0 / 1 1 1 1 1 1",
            "groups 0/ 1 1 1 1 1 1", "groups 0 /1 1 1 1 1 1", "groups 0  / 1 1 1 1 1 1", "groups 0 /  1 1 1 1 1 1",
            "groups 0 1 1 1 1 1 1", "groups 0 / 1 1 1 1 1 1 / 1", "groups 00 / 1 1 1 1 1 1", "groups 0 / 1 1 1 1 1 01",
            "listed", "listed ", "listed 64", "listed 1 0", "listed 0 0", "listed 0 1 1", "listed 0  1", "listed 0 1 ",
            "listed  0", "listed 0,1", "listed 0, 1", "listed 0 -1", "listed 0 2 1", "list 0", "listed 0 1 64",
            "listed 0 / 1", "listed 63 62", "stop", "3", "few 1\n", "listed " + " ".join(["0"] * 65),
            "few " + "9" * 5000,
            "listed " + " ".join(str(kept) for kept in range(65)))

    def test_texts_around(self):
        source = random.Random(134)
        for many in [1, 2, 3, 4] * 8:
            text = write_pattern(drawn_pattern(source, many))
            self.assert_around(source, read_pattern, write_pattern, is_pattern_text, text, 50)

    def test_cuts(self):
        for text in ("few 2", "groups 0 1 1 / 1 2 0 0 0 0", "listed 0 1 2 4 12 63"):
            self.assert_cuts(read_pattern, write_pattern, is_pattern_text, text)


class Plans(TextsTest):
    def test_written_out(self):
        self.assertEqual(write_plan(Stop()), "stop")
        self.assertEqual(write_plan(Open(0, [Take(0, Stop()), Stop()])), "open 0 (take 0 stop, stop)")
        self.assertEqual(write_plan(Take(5, Take(0, Stop()))), "take 5 take 0 stop")
        self.assertEqual(write_plan(Take(1, Open(2, [Stop(), Open(0, [Stop()]), Stop(), Stop()]))),
                         "take 1 open 2 (stop, open 0 (stop), stop, stop)")

    def test_read_out(self):
        self.assertEqual(read_plan("open 0 (take 0 stop, stop)").told(),
                         ("open", 0, (("take", 0, ("stop",)), ("stop",))))
        for text, kind in (("stop", Stop), ("take 3 stop", Take), ("open 3 (stop)", Open)):
            self.assertIs(type(read_plan(text)), kind)
            self.assertIsInstance(read_plan(text), Plan)
        self.assertIs(type(read_plan("open 3 (stop)").plans), tuple)

    def test_what_is_written_is_read_again(self):
        source = random.Random(135)
        for many in list(range(1, 7)) * 6:
            boxes = drawn_boxes(source, many)
            pattern = drawn_pattern(source, many)
            plan = drawn_plan(source, Case(boxes), pattern)
            text = write_plan(plan)
            self.assertEqual(is_plan_text(text), True)
            if len(text) <= 10000:
                self.assertEqual(read_plan(text).told(), plan.told())

    def test_plans_for_no_boxes(self):
        for text in ("take 5 take 5 take 5 stop", "open 1 (open 1 (stop), stop, stop, open 4 (stop, stop))"):
            self.assertEqual(write_plan(read_plan(text)), text)

    def test_forty_knots_on_a_way(self):
        for knots in (1, 2, 39, 40):
            plan = taking(knots)
            self.assertEqual(read_plan(write_plan(plan)).told(), plan.told())
            wide = Open(0, [plan, Stop()]) if knots < 40 else plan
            self.assertEqual(read_plan(write_plan(wide)).told(), wide.told())
        for knots in (41, 42, 60):
            self.assert_no_text(read_plan, write_plan(taking(knots)))
        self.assert_no_text(read_plan, write_plan(Open(0, [Stop(), taking(40)])), write_plan(Take(0, taking(40))))
        self.assertEqual(write_plan(read_plan("take 0 " * 39 + "stop")), "take 0 " * 39 + "stop")
        self.assert_no_text(read_plan, "take 0 " * 40 + "stop")
        opens = "open 0 (" * 39 + "stop" + ")" * 39
        self.assertEqual(write_plan(read_plan(opens)), opens)
        self.assert_no_text(read_plan, "open 0 (" * 40 + "stop" + ")" * 40)

    def test_no_plan(self):
        self.assert_no_text(
            read_plan, "", " ", "stop ", " stop", "Stop", "sto", "stopp", "stop stop", "stop, stop", "(stop)", "take",
            "take ", "take 0", "take 0 ", "take stop", "take 0  stop", "take  0 stop", "take 6 stop", "take 10 stop",
            "take 00 stop", "take 05 stop", "take -1 stop", "take 0 1 stop", "take 0 stop stop", "take 0, stop",
            "take0 stop",
            "take 0stop", "take 0 (stop)", "open", "open 0", "open 0 ", "open 0 ()", "open 0 (", "open 0 (stop",
            "open 0 stop", "open 0 stop)", "open 0(stop)", "open 0  (stop)", "open 0 ( stop)", "open 0 (stop )",
            "open 0 (stop,stop)", "open 0 (stop , stop)", "open 0 (stop,  stop)", "open 0 (stop, )", "open 0 (, stop)",
            "open 0 (stop,)", "open 0 (stop stop)", "open 6 (stop)", "open 01 (stop)", "open 0 (stop))",
            "open 0 ((stop))",
            "open 0 (stop, stop, stop, stop, stop)", "open 0 [stop]", "open (stop)", "open 0 0 (stop)",
            "open 0 (take 0)",
            "keep 0 stop", "stop\n", "take 0\nstop", "open 1000000000000 (stop)", "take " + "9" * 5000 + " stop")

    def test_one_to_four_plans(self):
        for many in range(1, 5):
            text = "open 0 (" + ", ".join(["stop"] * many) + ")"
            self.assertEqual(write_plan(read_plan(text)), text)
        for many in (0, 5, 6):
            self.assert_no_text(read_plan, "open 0 (" + ", ".join(["stop"] * many) + ")")
            self.assert_no_text(read_plan, "take 0 open 0 (stop, open 0 (" + ", ".join(["stop"] * many) + "))")

    def test_texts_around(self):
        source = random.Random(136)
        for many in [1, 2, 3] * 8:
            boxes = drawn_boxes(source, many, 8)
            pattern = drawn_pattern(source, many)
            text = write_plan(drawn_plan(source, Case(boxes), pattern))
            self.assert_around(source, read_plan, write_plan, is_plan_text, text, 40)

    def test_cuts(self):
        self.assert_cuts(read_plan, write_plan, is_plan_text, "open 0 (take 0 stop, open 1 (stop, take 1 take 0 stop))")

    def test_deep_and_long_texts(self):
        self.assert_no_text(read_plan, "take 0 " * 1428, "take 0 " * 1400 + "stop", "open 0 (" * 1250,
                            "open 0 (" * 1000 + "stop" + ")" * 1000, "(" * 10000,
                            "open 0 (stop" + ", stop" * 1600 + ")",
                            "open 0 (stop, " * 700, "open 0 (stop, stop, stop, " * 380, "open 0 (take 0 " * 660)
        # A text of nearly ten thousand signs with few knots on a way.
        plan = Stop()
        for knot in range(5):
            plan = Open(knot, [plan] * 4)
        text = write_plan(plan)
        self.assertGreater(len(text), 9000)
        self.assertLess(len(text), 10000)
        self.assertEqual(read_plan(text).told(), plan.told())


class Shares(TextsTest):
    def test_written_out(self):
        for fraction, text in (((7, 1), "7"), ((-7, 2), "-7/2"), ((0, 1), "0"), ((1, 2), "1/2"), ((-7, 1), "-7"),
                               ((59, 6), "59/6"), ((10, 1), "10"), ((1000000000, 1001), "1000000000/1001")):
            self.assertEqual(write_share(fraction), text)
            self.assertIs(type(write_share(fraction)), str)

    def test_many_figures(self):
        self.assertEqual(write_share((LONG, 2)), "9" * 200 + "/2")
        self.assertEqual(write_share((-LONG, 1)), "-" + "9" * 200)
        self.assertEqual(write_share((1, 10 ** 60)), "1/1" + "0" * 60)
        self.assertEqual(write_share((1, 10 ** 60 - 1)), "1/" + "9" * 60)
        self.assertEqual(write_share((10 ** 59, 3)), "1" + "0" * 59 + "/3")
        self.assertEqual(write_share((10 ** 120 + 5, 1)), "1" + "0" * 119 + "5")

    def test_more_figures_than_python_writes_at_once(self):
        number = 7 * 10 ** 6000 + 11
        self.assertEqual(write_share((number, 1)), "7" + "0" * 5998 + "11")
        self.assertEqual(write_share((-1, number)), "-1/7" + "0" * 5998 + "11")


class WhateverIsHandedIn(TextsTest):
    def test_no_text_at_all(self):
        for thing in wrong_things() + [0, 1, 7, ["1"], ("1",), {"1": "1"}, [1]]:
            with self.subTest(repr(type(thing).__name__)):
                for ask, is_text in ((read_box, is_box_text), (read_boxes, is_boxes_text),
                                     (read_pattern, is_pattern_text), (read_plan, is_plan_text)):
                    if not isinstance(thing, str) or not is_text(thing):
                        self.assert_refused(NoText, ask, thing)

    def test_texts_of_the_other_kinds(self):
        self.assert_no_text(read_box, "few 1", "stop", "7 | 8")
        self.assert_no_text(read_boxes, "few 1", "stop", "listed 0")
        self.assert_no_text(read_pattern, "7", "stop", "7 | 8", "1[1:1]")
        self.assert_no_text(read_plan, "7", "few 1", "7 | 8", "best")

    def test_drawn_texts(self):
        source = random.Random(137)
        words = ["stop", "take", "open", "few", "groups", "listed", "0", "1", "2", "10", "64", " ", " ", "[", "]", ":",
                 "|",
                 "/", "(", ")", ", ", " | ", " / ", "-", "01"]
        for one in range(3000):
            text = "".join(source.choice(words) for word in range(source.randrange(12)))
            self.assert_read_or_refused(read_box, write_box, is_box_text, text)
            self.assert_read_or_refused(read_boxes, write_boxes, is_boxes_text, text)
            self.assert_read_or_refused(read_pattern, write_pattern, is_pattern_text, text)
            self.assert_read_or_refused(read_plan, write_plan, is_plan_text, text)


if __name__ == "__main__":
    main()
