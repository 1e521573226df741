import itertools
import random
from fractions import Fraction
from unittest import main

from lidprice.errors import NoPattern, NoSets
from lidprice.patterns import Few, Groups, Listed, Pattern, chosen, flaw, need_pattern, short_worths
from tests.helper import LONG, ExactTest, objects, plain_things, told, wrong_things

ALL_SETS = range(64)


def members(kept):
    return frozenset(box for box in range(6) if kept & 2 ** box)


def number(boxes):
    return sum(2 ** box for box in boxes)


def sets_among(pattern, many):
    return {members(kept) for kept in range(2 ** many) if pattern.may(kept)}


def known_flaws(sets):
    """All flaws of the first sort that there is, by the sets of a pattern."""
    if frozenset() not in sets:
        return [("empty", 0, 0)]
    less = [("less", number(one), number(one - {box})) for one in sets for box in one if one - {box} not in sets]
    if less:
        return less
    return [("more", number(one), number(other)) for one in sets for other in sets
            if len(one) == len(other) + 1 and all(other | {box} not in sets for box in one - other)]


def known_choice(sets, worths):
    found = frozenset()
    for box in sorted(range(len(worths)), key=lambda box: (-worths[box], box)):
        if worths[box] > 0 and found | {box} in sets:
            found = found | {box}
    return sorted(found)


def drawn_groups(source):
    groups = [source.randrange(6) for box in range(source.randrange(1, 7))]
    return Groups(groups, [source.randrange(source.choice((2, 3, 7))) for group in range(6)])


def closed_below(sets):
    """The sets, and all that come of them by leaving boxes out."""
    return sorted({low for kept in sets for low in ALL_SETS if low & kept == low})


def drawn_listed(source, many=6):
    sets = source.sample(range(2 ** many), source.randrange(1, 2 ** many + 1))
    if source.random() < 0.6:
        sets = closed_below(sets[:source.randrange(1, 5)])
    source.shuffle(sets)
    return Listed(sets)


def drawn_patterns(seed, many):
    source = random.Random(seed)
    patterns = [Few(count) for count in range(7)]
    patterns.extend(drawn_groups(source) for one in range(many))
    patterns.extend(drawn_listed(source, source.randrange(1, 7)) for one in range(2 * many))
    return patterns


def drawn_worths(source, many):
    worths = [Fraction(source.randrange(-3, 6), source.randrange(1, 4)) for box in range(many)]
    return worths if source.random() < 0.5 else [Fraction(source.randrange(-1, 3)) for box in range(many)]


class PatternsTest(ExactTest):
    def assert_sets(self, pattern, wanted):
        for kept in ALL_SETS:
            self.assertIs(pattern.may(kept), kept in wanted, kept)


class Sorts(PatternsTest):
    def test_classes(self):
        for pattern in (Few(0), Groups([0], [0] * 6), Listed([0])):
            self.assertIsInstance(pattern, Pattern)
        for one, other in itertools.permutations((Few, Groups, Listed), 2):
            self.assertFalse(issubclass(one, other))

    def test_few(self):
        for count in range(7):
            self.assert_sets(Few(count), [kept for kept in ALL_SETS if len(members(kept)) <= count])
            self.assertEqual(Few(count).told(), ("few", count))
        self.assert_sets(Few(0), [0])
        self.assert_sets(Few(1), [0, 1, 2, 4, 8, 16, 32])
        self.assert_sets(Few(6), ALL_SETS)

    def test_groups_written_out(self):
        pattern = Groups([0, 1, 1], [1, 1, 0, 0, 0, 0])
        self.assert_sets(pattern, [0, 1, 2, 3, 4, 5])
        self.assertEqual(pattern.told(), ("groups", (0, 1, 1), (1, 1, 0, 0, 0, 0)))

    def test_groups_of_which_none_may_be_kept(self):
        self.assert_sets(Groups([0, 1, 0], [0, 1, 6, 6, 6, 6]), [0, 2])
        self.assert_sets(Groups([5, 5, 5, 5, 5, 5], [6, 6, 6, 6, 6, 0]), [0])

    def test_a_box_of_no_group(self):
        self.assert_sets(Groups([0], [6] * 6), [0, 1])
        self.assert_sets(Groups([0, 0], [6] * 6), [0, 1, 2, 3])
        self.assert_sets(Groups([0, 0, 0, 0, 0], [6] * 6), range(32))
        self.assert_sets(Groups([0, 0, 0, 0, 0, 0], [6] * 6), ALL_SETS)

    def test_groups_like_few(self):
        for count in range(7):
            pattern = Groups([3] * 6, [0, 0, 0, count, 0, 0])
            self.assert_sets(pattern, [kept for kept in ALL_SETS if Few(count).may(kept)])

    def test_drawn_groups(self):
        source = random.Random(41)
        for again in range(100):
            groups = [source.randrange(6) for box in range(source.randrange(1, 7))]
            most = [source.randrange(source.choice((2, 3, 7))) for group in range(6)]
            wanted = []
            for kept in ALL_SETS:
                boxes = members(kept)
                if max(boxes, default=0) < len(groups):
                    of_groups = [groups[box] for box in boxes]
                    if all(of_groups.count(group) <= most[group] for group in range(6)):
                        wanted.append(kept)
            pattern = Groups(groups, most)
            self.assert_sets(pattern, wanted)
            self.assertEqual(pattern.told(), ("groups", tuple(groups), tuple(most)))

    def test_listed(self):
        self.assert_sets(Listed([5, 0, 63]), [0, 5, 63])
        self.assertEqual(Listed([5, 0, 63]).told(), ("listed", (0, 5, 63)))
        self.assertEqual(Listed([0, 5, 63]).told(), ("listed", (0, 5, 63)))
        for kept in ALL_SETS:
            self.assert_sets(Listed([kept]), [kept])
            self.assertEqual(Listed([kept]).told(), ("listed", (kept,)))
        self.assert_sets(Listed(list(ALL_SETS)), ALL_SETS)
        self.assertEqual(Listed(list(reversed(ALL_SETS))).told(), ("listed", tuple(ALL_SETS)))

    def test_drawn_listed(self):
        source = random.Random(42)
        for again in range(60):
            sets = source.sample(ALL_SETS, source.randrange(1, 65))
            pattern = Listed(sets)
            self.assert_sets(pattern, sets)
            self.assertEqual(pattern.told(), ("listed", tuple(sorted(sets))))

    def test_kinds_that_are_told(self):
        for pattern in drawn_patterns(43, 5):
            found = pattern.told()
            self.assertIs(type(found), tuple)
            self.assertIs(type(found[0]), str)
            self.assertIs(type(found[1]), int if found[0] == "few" else tuple)
            self.assertIs(type(found[-1]), int if found[0] == "few" else tuple)


class Own(PatternsTest):
    """Patterns stay as they were, whatever is done to the lists of which they were made, or to what is told."""

    def test_groups(self):
        groups = [0, 0, 1]
        most = [1, 1, 0, 0, 0, 0]
        pattern = Groups(groups, most)
        self.assertEqual((groups, most), ([0, 0, 1], [1, 1, 0, 0, 0, 0]))
        groups[0] = 1
        groups.append(0)
        most[0] = 6
        self.assertEqual(pattern.told(), ("groups", (0, 0, 1), (1, 1, 0, 0, 0, 0)))
        self.assert_sets(pattern, [0, 1, 2, 4, 5, 6])
        groups.clear()
        most.clear()
        self.assert_sets(pattern, [0, 1, 2, 4, 5, 6])

    def test_listed(self):
        sets = [4, 0, 1]
        pattern = Listed(sets)
        self.assertEqual(sets, [4, 0, 1])
        sets[0] = 7
        sets.append(2)
        self.assertEqual(pattern.told(), ("listed", (0, 1, 4)))
        self.assert_sets(pattern, [0, 1, 4])
        sets.clear()
        self.assert_sets(pattern, [0, 1, 4])

    def test_no_asking_changes_a_pattern(self):
        for pattern in drawn_patterns(44, 10):
            before = (pattern.told(), [pattern.may(kept) for kept in ALL_SETS])
            worths = [(2, 1), (2, 1), (-1, 3), (5, 2)]
            found = chosen(pattern, worths)
            again = list(found)
            found.append(9)
            self.assertEqual(worths, [(2, 1), (2, 1), (-1, 3), (5, 2)])
            self.assertEqual(chosen(pattern, worths), again)
            for many in range(1, 7):
                self.assertEqual(flaw(pattern, many), flaw(pattern, many))
            self.assertEqual((pattern.told(), [pattern.may(kept) for kept in ALL_SETS]), before)

    def test_short_worths(self):
        found = short_worths(3, 4, 3)
        found.clear()
        self.assertEqual(short_worths(3, 4, 3), [2, 2, 3])


class NoSuchSets(PatternsTest):
    def assert_none(self, make, *given):
        self.assert_refused(NoSets, make, *given)

    def test_few(self):
        for thing in wrong_things() + [7, 8, 64, -7]:
            with self.subTest(type(thing).__name__):
                self.assert_none(Few, thing)

    def test_groups_of_other_kinds(self):
        most = [1] * 6
        for thing in wrong_things() + [0, 1, (0, 1), {0: 0}, "01", [6], [0, 6], [-1], [0, -1], [0] * 7, [0] * 12,
                                       range(3), [5, 5, 7]]:
            if thing in ([0], [1]):
                continue
            with self.subTest(type(thing).__name__):
                self.assert_none(Groups, thing, most)
                self.assert_none(Groups, thing, thing)
        for thing in plain_things() + objects() + [6, -1]:
            with self.subTest(type(thing).__name__):
                self.assert_none(Groups, [thing], most)
                self.assert_none(Groups, [0, 1, thing], most)
                self.assert_none(Groups, [thing, 0, 0, 0, 0, 0], most)

    def test_groups_of_other_counts(self):
        for thing in wrong_things() + [0, 1, (1,) * 6, "111111", [1] * 5, [1] * 7, [0] * 12, [], [6],
                                       {group: 1 for group in range(6)}]:
            with self.subTest(type(thing).__name__):
                self.assert_none(Groups, [0, 1], thing)
        for thing in plain_things() + objects() + [7, -1, 8]:
            with self.subTest(type(thing).__name__):
                self.assert_none(Groups, [0, 1], [thing, 1, 1, 1, 1, 1])
                self.assert_none(Groups, [0, 1], [1, 1, 1, 1, 1, thing])

    def test_groups_at_the_bounds(self):
        self.assertEqual(Groups([5, 0], [6, 0, 6, 0, 6, 0]).told(), ("groups", (5, 0), (6, 0, 6, 0, 6, 0)))
        self.assertEqual(Groups([0, 1, 2, 3, 4, 5], [0] * 6).told(), ("groups", (0, 1, 2, 3, 4, 5), (0,) * 6))

    def test_listed(self):
        for thing in wrong_things() + [0, 1, (0, 1), {0: 1}, "01", [64], [0, 64], [-1], [0, -1], list(range(65))]:
            if thing in ([0], [1]):
                continue
            with self.subTest(type(thing).__name__):
                self.assert_none(Listed, thing)
        for thing in plain_things() + objects() + [64, -1, 65]:
            with self.subTest(type(thing).__name__):
                self.assert_none(Listed, [thing])
                self.assert_none(Listed, [0, 1, thing])
                self.assert_none(Listed, [thing, 2, 3])

    def test_listed_twice(self):
        self.assert_none(Listed, [0, 0])
        self.assert_none(Listed, [0, 1, 5, 9, 1])
        self.assert_none(Listed, [63, 5, 63])
        self.assert_none(Listed, list(ALL_SETS) + [0])
        self.assert_none(Listed, [0] * 64)

    def test_lists_stay_as_they_were(self):
        sets = [3, 1, 3]
        groups = [0, 9]
        most = [1] * 6
        self.assert_none(Listed, sets)
        self.assert_none(Groups, groups, most)
        self.assertEqual((sets, groups, most), ([3, 1, 3], [0, 9], [1] * 6))


class Flaws(PatternsTest):
    def assert_flaw(self, pattern, many):
        known = known_flaws(sets_among(pattern, many))
        found = flaw(pattern, many)
        self.assertEqual(flaw(pattern, many), found)
        if not known:
            self.assertIsNone(found)
            return None
        self.assertIs(type(found), tuple)
        self.assertEqual([type(part) for part in found], [str, int, int])
        self.assertIn(found, known)
        return found[0]

    def test_none(self):
        for many in range(1, 7):
            for count in range(7):
                self.assertIsNone(flaw(Few(count), many))
            self.assertIsNone(flaw(Listed([0]), many))
            self.assertIsNone(flaw(Listed(list(ALL_SETS)), many))
            self.assertIsNone(flaw(Groups([0, 1, 0, 1, 2, 2], [1, 2, 1, 0, 0, 0]), many))
            self.assertIsNone(flaw(Groups([0, 1], [1, 2, 1, 0, 0, 0]), many))

    def test_empty(self):
        for many in range(1, 7):
            self.assertEqual(flaw(Listed([1]), many), ("empty", 0, 0))
            self.assertEqual(flaw(Listed([63]), many), ("empty", 0, 0))
            self.assertEqual(flaw(Listed(list(range(1, 64))), many), ("empty", 0, 0))

    def test_less(self):
        self.assertEqual(flaw(Listed([0, 1, 3]), 2), ("less", 3, 2))
        self.assertEqual(flaw(Listed([0, 2, 3]), 2), ("less", 3, 1))
        self.assertIn(flaw(Listed([0, 3]), 2), [("less", 3, 1), ("less", 3, 2)])
        self.assertEqual(flaw(Listed([0, 1, 2, 4, 3, 5, 7]), 3), ("less", 7, 6))
        self.assertEqual(flaw(Listed([kept for kept in ALL_SETS if kept != 31]), 6), ("less", 63, 31))

    def test_more(self):
        self.assertEqual(flaw(Listed([0, 1, 2, 4, 3]), 3), ("more", 3, 4))
        self.assertEqual(flaw(Listed([0, 1, 2, 4, 6]), 3), ("more", 6, 1))
        self.assertEqual(flaw(Listed(closed_below([7, 24, 9, 17, 10, 18, 12, 20])), 5)[0], "more")

    def test_one_box_more_is_put_whichever_it_is(self):
        self.assertIsNone(flaw(Listed([0, 1, 2, 4, 3, 6]), 3))
        self.assertEqual(flaw(Listed([0, 1, 2, 4, 8, 3, 12]), 4)[0], "more")

    def test_the_first_sort_goes_first(self):
        self.assertEqual(flaw(Listed([3, 4]), 3), ("empty", 0, 0))
        self.assertEqual(flaw(Listed([0, 1, 2, 3, 4, 40]), 3), ("more", 3, 4))
        self.assertEqual(flaw(Listed([0, 1, 2, 3, 4, 24]), 5)[0], "less")

    def test_other_boxes_are_not_looked_at(self):
        pattern = Listed([0, 1, 2, 3, 4, 48])
        self.assertIsNone(flaw(pattern, 1))
        self.assertIsNone(flaw(pattern, 2))
        for many in (3, 4, 5):
            self.assertEqual(flaw(pattern, many), ("more", 3, 4))
        self.assertEqual(flaw(pattern, 6)[:2], ("less", 48))

    def test_all_listed_among_three_boxes(self):
        sorts = []
        for chance in range(1, 256):
            pattern = Listed([kept for kept in range(8) if chance & 2 ** kept])
            for many in (1, 2, 3):
                sorts.append(self.assert_flaw(pattern, many))
        self.assertEqual(set(sorts), {None, "empty", "less", "more"})
        self.assertEqual([sorts[2::3].count(sort) for sort in ("empty", None, "more")], [127, 16, 3])

    def test_drawn_ones(self):
        sorts = {many: set() for many in range(1, 7)}
        for pattern in drawn_patterns(45, 120):
            for many in range(1, 7):
                sorts[many].add(self.assert_flaw(pattern, many))
        self.assertEqual(sorts[1], {None, "empty"})
        self.assertEqual(sorts[2], {None, "empty", "less"})
        for many in range(3, 7):
            self.assertEqual(sorts[many], {None, "empty", "less", "more"})

    def test_the_same_each_time(self):
        for pattern in drawn_patterns(46, 30):
            if pattern.told()[0] == "listed":
                backward = Listed(list(reversed(pattern.told()[1])))
                for many in range(1, 7):
                    self.assertEqual(flaw(backward, many), flaw(pattern, many))


class Choosing(PatternsTest):
    def assert_chosen(self, pattern, worths):
        found = chosen(pattern, [told(worth) for worth in worths])
        self.assertIs(type(found), list)
        self.assertEqual([type(box) for box in found], [int] * len(found))
        self.assertEqual(found, known_choice(sets_among(pattern, 6), worths))
        return found

    def test_written_out(self):
        self.assertEqual(chosen(Few(1), [(1, 1), (3, 1), (2, 1)]), [1])
        self.assertEqual(chosen(Few(2), [(1, 1), (3, 1), (2, 1)]), [1, 2])
        self.assertEqual(chosen(Few(0), [(1, 1), (3, 1), (2, 1)]), [])
        self.assertEqual(chosen(Few(6), [(1, 1), (3, 1), (2, 1)]), [0, 1, 2])
        self.assertEqual(chosen(Groups([0, 0, 1], [1, 1, 0, 0, 0, 0]), [(1, 1), (3, 1), (2, 1)]), [1, 2])
        self.assertEqual(chosen(Groups([0, 1, 1], [1, 1, 0, 0, 0, 0]), [(1, 1), (3, 1), (2, 1)]), [0, 1])

    def test_of_equal_ones_the_least_number(self):
        for many in range(1, 7):
            for count in range(7):
                self.assertEqual(chosen(Few(count), [(5, 2)] * many), list(range(min(many, count))))
        self.assertEqual(chosen(Few(1), [(1, 1), (2, 1), (2, 1), (1, 1)]), [1])
        self.assertEqual(chosen(Few(2), [(1, 1), (2, 1), (1, 1), (1, 1)]), [0, 1])
        self.assertEqual(chosen(Few(3), [(1, 1), (1, 1), (2, 1), (1, 1), (2, 1)]), [0, 2, 4])

    def test_only_above_nought(self):
        self.assertEqual(chosen(Few(6), [(0, 1), (-1, 1), (1, 9), (-7, 2), (0, 1), (3, 1)]), [2, 5])
        self.assertEqual(chosen(Few(6), [(0, 1)]), [])
        self.assertEqual(chosen(Few(6), [(-1, LONG)]), [])
        self.assertEqual(chosen(Few(6), [(1, LONG)]), [0])

    def test_fractions_close_together(self):
        close = [(LONG - 2, LONG - 1), (LONG - 1, LONG), (1, LONG), (1, LONG - 1)]
        self.assertEqual(chosen(Few(1), close), [1])
        self.assertEqual(chosen(Few(2), close), [0, 1])
        self.assertEqual(chosen(Few(3), close), [0, 1, 3])
        self.assertEqual(chosen(Few(1), [(1, 3), (1, 2), (2, 5)]), [1])

    def test_passed_over_for_good(self):
        pattern = Listed([0, 1, 2, 4, 3])
        self.assertEqual(chosen(pattern, [(2, 1), (2, 1), (3, 1)]), [2])
        self.assertEqual(chosen(pattern, [(2, 1), (2, 1), (1, 1)]), [0, 1])
        self.assertEqual(chosen(Listed([0, 3]), [(2, 1), (2, 1)]), [])

    def test_where_the_set_without_boxes_is_none(self):
        self.assertEqual(chosen(Listed([1]), [(2, 1), (2, 1)]), [0])
        self.assertEqual(chosen(Listed([2]), [(-2, 1), (0, 1)]), [])

    def test_drawn_ones(self):
        source = random.Random(47)
        for pattern in drawn_patterns(48, 60):
            for many in range(1, 7):
                for again in range(3):
                    self.assert_chosen(pattern, drawn_worths(source, many))

    def test_long_ones(self):
        source = random.Random(49)
        for pattern in drawn_patterns(50, 10):
            worths = [Fraction(source.randrange(-LONG // 3, LONG), source.randrange(1, LONG)) for box in range(6)]
            self.assert_chosen(pattern, worths)

    def test_no_set_has_more_where_there_is_no_flaw(self):
        source = random.Random(51)
        looked_at = 0
        for pattern in drawn_patterns(52, 60):
            for many in range(1, 7):
                if flaw(pattern, many) is None:
                    looked_at += 1
                    worths = drawn_worths(source, many)
                    found = chosen(pattern, [told(worth) for worth in worths])
                    self.assertTrue(pattern.may(number(found)))
                    sums = [sum(worths[box] for box in boxes) for boxes in sets_among(pattern, many)]
                    self.assertEqual(sum(worths[box] for box in found), max(sums))
        self.assertGreater(looked_at, 200)


class ShortWorths(PatternsTest):
    def test_written_out(self):
        self.assertEqual(short_worths(3, 4, 3), [2, 2, 3])
        self.assertEqual(short_worths(3, 4, 5), [2, 2, 3, 0, 0])
        self.assertEqual(short_worths(0b0111, 0b1001, 4), [4, 3, 3, 4])
        self.assertEqual(short_worths(0, 0, 2), [0, 0])
        self.assertEqual(short_worths(63, 0, 6), [1] * 6)
        self.assertEqual(short_worths(0, 63, 6), [8] * 6)
        self.assertEqual(short_worths(63, 63, 1), [8])

    def test_any_two_sets(self):
        for one in ALL_SETS:
            for other in ALL_SETS:
                size = len(members(other))
                wanted = [size + 2 if box in members(other) else size + 1 if box in members(one) else 0
                          for box in range(6)]
                for many in range(1, 7):
                    self.assertEqual(short_worths(one, other, many), wanted[:many])

    def test_choosing_by_them_comes_short(self):
        looked_at = 0
        for pattern in drawn_patterns(53, 150):
            for many in range(1, 7):
                found = flaw(pattern, many)
                if found is None or found[0] != "more":
                    continue
                looked_at += 1
                worths = short_worths(found[1], found[2], many)
                self.assertEqual([type(worth) for worth in worths], [int] * many)
                by_worth = chosen(pattern, [(worth, 1) for worth in worths])
                self.assertEqual(by_worth, sorted(members(found[2])))
                self.assertLess(sum(worths[box] for box in by_worth), sum(worths[box] for box in members(found[1])))
        self.assertGreater(looked_at, 60)


class NeedPattern(PatternsTest):
    def test_a_pattern_without_a_flaw(self):
        for many in range(1, 7):
            self.assertIsNone(need_pattern(Few(many), many))
            self.assertIsNone(need_pattern(Groups([0, 0, 1], [1] * 6), many))
            self.assertIsNone(need_pattern(Listed([0]), many))
        self.assertIsNone(need_pattern(Listed([0, 1, 2, 3, 4]), 2))

    def test_no_pattern(self):
        things = plain_things() + [0, 1, 6, ("few", 1), ["few", 1], "few 1", Few(1).told(), [Few(1)], (Few(1),)]
        things.extend(thing for thing in objects() if not isinstance(thing, Pattern))
        for thing in things:
            with self.subTest(type(thing).__name__):
                for many in (1, 3, 6):
                    self.assert_refused(NoSets, need_pattern, thing, many)

    def test_a_flaw_with_its_fields(self):
        sorts = set()
        for pattern in drawn_patterns(54, 60) + [Listed([1]), Listed([0, 1, 3]), Listed([0, 1, 2, 3, 4])]:
            for many in range(1, 7):
                found = flaw(pattern, many)
                if found is None:
                    self.assertIsNone(need_pattern(pattern, many))
                else:
                    sorts.add(found[0])
                    error = self.assert_refused(NoPattern, need_pattern, pattern, many)
                    self.assert_whole(error.one, found[1])
                    self.assert_whole(error.other, found[2])
        self.assertEqual(sorts, {"empty", "less", "more"})

    def test_written_out(self):
        for sets, many, one, other in (([1], 1, 0, 0), ([0, 1, 3], 2, 3, 2), ([0, 1, 2, 3, 4], 3, 3, 4)):
            error = self.assert_refused(NoPattern, need_pattern, Listed(sets), many)
            self.assertEqual((error.one, error.other), (one, other))


if __name__ == "__main__":
    main()
