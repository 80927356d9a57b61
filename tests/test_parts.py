"""Promises 21 to 25, and 2 and 3 of parts: the eleven kinds."""

import unittest

from holdlane import parts
from holdlane.errors import BadLanes, BadNumbers, LaneError, NoKind
from holdlane.parts import Part, is_kind, part_made
from holdlane.words import is_whole

TOP = 10 ** 9 - 1
COUNTS = {
    "give": (0, 0, 1),
    "take": (0, 1, 0),
    "pass": (0, 1, 1),
    "copy": (0, 1, 2),
    "turn": (2, 1, 1),
    "heap": (1, 1, 1),
    "add": (0, 2, 1),
    "less": (0, 2, 1),
    "order": (0, 2, 2),
    "choose": (0, 3, 1),
    "split": (0, 2, 2),
}
NUMBERS = [3, 7, 5, 9]
INS = ["i", "j", "k", "l"]
OUTS = ["o", "p", "q"]
NO_VALUES = [True, False, "1", "", None, -1, 10 ** 9, 10 ** 40, 1.0, [], [1], (1,), {}, object()]


def class_of(kind):
    return getattr(parts, kind.capitalize())


def forms(kind):
    many = COUNTS[kind]
    return NUMBERS[:many[0]], INS[:many[1]], OUTS[:many[2]]


def made(kind):
    numbers, ins, outs = forms(kind)
    return part_made(kind, "it", numbers, ins, outs)


def fields(part):
    return part.kind(), part.name, part.numbers, part.ins, part.outs


class KindsOfParts(unittest.TestCase):
    def test_there_are_eleven(self):
        self.assertEqual(len(COUNTS), 11)
        for kind in COUNTS:
            self.assertIs(is_kind(kind), True)

    def test_other_words_are_no_kinds(self):
        for word in ("", "Give", "GIVE", "give ", " give", "give\n", "lane", "part", "giv", "gives", "merge", ":", "0", "turn 1"):
            self.assertIs(is_kind(word), False)

    def test_each_class_stands_under_part_and_no_other(self):
        for kind in COUNTS:
            for other in COUNTS:
                with self.subTest(f"{kind} under {other}"):
                    self.assertEqual(issubclass(class_of(kind), class_of(other)), kind == other)
            self.assertTrue(issubclass(class_of(kind), Part))

    def test_each_is_made_of_its_own_class(self):
        for kind in COUNTS:
            part = made(kind)
            with self.subTest(kind):
                self.assertIs(type(part), class_of(kind))
                self.assertEqual(part.kind(), kind)

    def test_fields(self):
        for kind in COUNTS:
            numbers, ins, outs = forms(kind)
            part = made(kind)
            with self.subTest(kind):
                self.assertEqual(fields(part), (kind, "it", tuple(numbers), tuple(ins), tuple(outs)))
                for told in (part.numbers, part.ins, part.outs):
                    self.assertIs(type(told), tuple)

    def test_classes_made_directly(self):
        for kind in COUNTS:
            numbers, ins, outs = forms(kind)
            for shape in (list, tuple):
                part = class_of(kind)("it", shape(numbers), shape(ins), shape(outs))
                with self.subTest(kind):
                    self.assertEqual(fields(part), (kind, "it", tuple(numbers), tuple(ins), tuple(outs)))
                    self.assertEqual(part.start(), 3 if kind == "heap" else 0)

    def test_what_it_remembers_at_first(self):
        for kind in COUNTS:
            if kind != "heap":
                with self.subTest(kind):
                    self.assertEqual(made(kind).start(), 0)
                    self.assertTrue(is_whole(made(kind).start()))
        for number in (0, 1, 5, TOP):
            self.assertEqual(part_made("heap", "h", [number], ["a"], ["b"]).start(), number)


class Lacking(unittest.TestCase):
    def asked(self, kind, heads, lacks):
        part = made(kind)
        kept = list(heads)
        with self.subTest(f"{kind} with {heads}"):
            answer = part.lacks(heads)
            self.assertEqual(answer, lacks)
            if lacks is not None:
                self.assertTrue(is_whole(answer))
            self.assertEqual(heads, kept)

    def taken(self, kind, heads, places):
        part = made(kind)
        kept = list(heads)
        with self.subTest(f"{kind} with {heads}"):
            self.assertIsNone(part.lacks(heads))
            answer = part.taking(heads)
            self.assertEqual(answer, places)
            self.assertIs(type(answer), list)
            self.assertTrue(all(is_whole(place) for place in answer))
            answer.append(99)
            self.assertEqual(part.taking(heads), places)
            self.assertEqual(heads, kept)

    def test_a_give_lacks_nothing(self):
        self.taken("give", [], [])

    def test_one_lane_in(self):
        for kind in ("take", "pass", "copy", "turn", "heap"):
            self.asked(kind, [None], 0)
            for value in (0, 1, 2, TOP):
                self.taken(kind, [value], [0])

    def test_two_lanes_in(self):
        for kind in ("add", "less", "order", "split"):
            for value in (0, 1, 2, TOP):
                self.asked(kind, [None, None], 0)
                self.asked(kind, [None, value], 0)
                self.asked(kind, [value, None], 1)
                self.taken(kind, [value, value], [0, 1])
                self.taken(kind, [value, 0], [0, 1])
                self.taken(kind, [0, value], [0, 1])

    def test_a_choose_is_asked_for_its_first_lane_first(self):
        for heads in ([None, None, None], [None, 4, None], [None, None, 4], [None, 4, 4], [None, 0, 0]):
            self.asked("choose", heads, 0)

    def test_a_choose_by_an_even_value(self):
        for even in (0, 2, 4, TOP - 1):
            for other in (None, 0, 1, 8):
                self.asked("choose", [even, None, other], 1)
                self.taken("choose", [even, 0, other], [0, 1])
                self.taken("choose", [even, 9, other], [0, 1])

    def test_a_choose_by_an_odd_value(self):
        for odd in (1, 3, 5, TOP):
            for other in (None, 0, 1, 8):
                self.asked("choose", [odd, other, None], 2)
                self.taken("choose", [odd, other, 0], [0, 2])
                self.taken("choose", [odd, other, 9], [0, 2])


class Working(unittest.TestCase):
    def works(self, part, values, given, kept=0, then=None):
        then = kept if then is None else then
        ahead = list(values)
        told = fields(part)
        with self.subTest(f"{part.kind()} with {values} and {kept}"):
            answer = part.worked(values, kept)
            self.assertIs(type(answer), tuple)
            self.assertEqual(answer, (given, then))
            self.assertIs(type(answer[0]), list)
            self.assertTrue(all(type(pair) is tuple and is_whole(pair[0]) and is_whole(pair[1]) for pair in answer[0]))
            self.assertTrue(is_whole(answer[1]))
            answer[0].append("more")
            self.assertEqual(part.worked(values, kept), (given, then))
            self.assertEqual(values, ahead)
            self.assertEqual(fields(part), told)

    def test_give_and_pass_and_copy_and_take(self):
        for value in (0, 1, 8, TOP):
            self.works(made("give"), [value], [(0, value)])
            self.works(made("pass"), [value], [(0, value)])
            self.works(made("copy"), [value], [(0, value), (1, value)])
            self.works(made("take"), [value], [])

    def test_turn(self):
        rows = ((3, 7, 5, 22), (0, 0, 9, 0), (0, 4, 9, 4), (1, 0, TOP, TOP), (1, 1, TOP, 0), (2, 0, 500000000, 0),
                (7, 2, 0, 2), (TOP, TOP, TOP, 0), (TOP, 0, 1, TOP), (TOP, 0, 2, TOP - 1), (TOP, 0, TOP, 1), (2, TOP, 3, 5))
        for k, c, value, answer in rows:
            self.works(part_made("turn", "t", [k, c], ["a"], ["b"]), [value], [(0, answer)])

    def test_heap(self):
        heap = part_made("heap", "h", [7], ["a"], ["b"])
        for kept, value, then in ((7, 5, 12), (0, 0, 0), (12, 0, 12), (0, 3, 3), (TOP, 1, 0), (TOP, TOP, TOP - 1), (1, TOP, 0)):
            self.works(heap, [value], [(0, then)], kept, then)

    def test_a_heap_goes_by_what_is_handed_in_and_keeps_nothing(self):
        heap = part_made("heap", "h", [7], ["a"], ["b"])
        self.assertEqual(heap.worked([5], 100), ([(0, 105)], 105))
        self.assertEqual(heap.worked([5], 7), ([(0, 12)], 12))
        self.assertEqual(heap.start(), 7)
        self.assertEqual(heap.numbers, (7,))

    def test_add(self):
        for one, other, answer in ((0, 0, 0), (2, 3, 5), (TOP, 0, TOP), (TOP, 1, 0), (1, TOP, 0), (TOP, TOP, TOP - 1)):
            self.works(made("add"), [one, other], [(0, answer)])

    def test_less(self):
        for one, other, answer in ((1, 2, 1), (2, 1, 0), (5, 5, 0), (0, 0, 0), (0, TOP, 1), (TOP, 0, 0), (TOP, TOP, 0)):
            self.works(made("less"), [one, other], [(0, answer)])

    def test_order(self):
        for one, other in ((1, 2), (0, TOP), (9, 10), (99, 100)):
            self.works(made("order"), [one, other], [(0, one), (1, other)])
            self.works(made("order"), [other, one], [(0, one), (1, other)])
        for value in (0, 4, TOP):
            self.works(made("order"), [value, value], [(0, value), (1, value)])

    def test_choose(self):
        for choosing in (0, 1, 2, 3, TOP - 1, TOP):
            for value in (0, 1, 6, TOP):
                self.works(made("choose"), [choosing, value], [(0, value)])

    def test_split(self):
        for value in (0, 1, 6, TOP):
            for even in (0, 2, 4, TOP - 1):
                self.works(made("split"), [even, value], [(0, value)])
            for odd in (1, 3, 5, TOP):
                self.works(made("split"), [odd, value], [(1, value)])

    def test_what_is_kept_is_handed_back_but_by_a_heap(self):
        for kind in COUNTS:
            if kind != "heap":
                for kept in (0, 1, 77, TOP):
                    with self.subTest(kind):
                        self.assertEqual(made(kind).worked([4, 6], kept)[1], kept)


class Remembering(unittest.TestCase):
    def test_a_heap_alike_but_for_its_number(self):
        heap = part_made("heap", "h", [7], ["a"], ["b"])
        for kept in (0, 1, 7, 12, TOP):
            other = heap.with_memory(kept)
            self.assertIs(type(other), parts.Heap)
            self.assertIsNot(other, heap)
            self.assertEqual(fields(other), ("heap", "h", (kept,), ("a",), ("b",)))
            self.assertEqual(other.start(), kept)
        self.assertEqual(fields(heap), ("heap", "h", (7,), ("a",), ("b",)))
        self.assertEqual(heap.start(), 7)

    def test_any_other_part_is_alike_in_all(self):
        for kind in COUNTS:
            if kind == "heap":
                continue
            part = made(kind)
            told = fields(part)
            for kept in (0, 1, 12, TOP):
                other = part.with_memory(kept)
                with self.subTest(kind):
                    self.assertIs(type(other), class_of(kind))
                    self.assertIsNot(other, part)
                    self.assertEqual(fields(other), told)
                    self.assertEqual(other.start(), 0)
            self.assertEqual(fields(part), told)

    def test_a_part_told_anew_works_alike(self):
        turn = part_made("turn", "t", [3, 1], ["a"], ["b"]).with_memory(9)
        self.assertEqual(turn.worked([4], 0), ([(0, 13)], 0))
        heap = part_made("heap", "h", [7], ["a"], ["b"]).with_memory(9)
        self.assertEqual(heap.worked([4], heap.start()), ([(0, 13)], 13))


class Making(unittest.TestCase):
    def refused(self, error, field, told, row):
        with self.subTest(f"{error.__name__} for {row}"):
            with self.assertRaises(LaneError) as taken:
                part_made(*row)
            self.assertIs(type(taken.exception), error)
            self.assertEqual(getattr(taken.exception, field), told)

    def test_lists_and_tuples(self):
        for kind in COUNTS:
            numbers, ins, outs = forms(kind)
            by_lists = part_made(kind, "it", list(numbers), list(ins), list(outs))
            by_tuples = part_made(kind, "it", tuple(numbers), tuple(ins), tuple(outs))
            mixed = part_made(kind, "it", tuple(numbers), list(ins), tuple(outs))
            self.assertEqual(fields(by_lists), fields(by_tuples))
            self.assertEqual(fields(by_lists), fields(mixed))

    def test_words_that_are_no_kinds(self):
        for word in ("", "Give", "give ", "lane", "merge", "turn\n", "0"):
            self.refused(NoKind, "word", word, (word, "it", [], ["a"], ["b"]))

    def test_a_number_more_or_less(self):
        for kind in COUNTS:
            numbers, ins, outs = forms(kind)
            for shape in (list, tuple):
                self.refused(BadNumbers, "name", "it", (kind, "it", shape(numbers + [1]), ins, outs))
                if numbers:
                    self.refused(BadNumbers, "name", "it", (kind, "it", shape(numbers[:-1]), ins, outs))
        self.refused(BadNumbers, "name", "it", ("turn", "it", [], ["a"], ["b"]))

    def test_numbers_that_are_no_values(self):
        for thing in NO_VALUES:
            self.refused(BadNumbers, "name", "it", ("heap", "it", [thing], ["a"], ["b"]))
            self.refused(BadNumbers, "name", "it", ("heap", "it", (thing,), ["a"], ["b"]))
            self.refused(BadNumbers, "name", "it", ("turn", "it", [thing, 1], ["a"], ["b"]))
            self.refused(BadNumbers, "name", "it", ("turn", "it", [1, thing], ["a"], ["b"]))

    def test_the_least_and_the_greatest_value_are_let_by(self):
        self.assertEqual(part_made("turn", "t", [0, TOP], ["a"], ["b"]).numbers, (0, TOP))

    def test_a_lane_more_or_less(self):
        for kind in COUNTS:
            numbers, ins, outs = forms(kind)
            for shape in (list, tuple):
                self.refused(BadLanes, "name", "it", (kind, "it", numbers, shape(ins + ["z"]), outs))
                self.refused(BadLanes, "name", "it", (kind, "it", numbers, ins, shape(outs + ["z"])))
                self.refused(BadLanes, "name", "it", (kind, "it", numbers, shape(ins + ["z"]), shape(outs[:-1])))
                if ins:
                    self.refused(BadLanes, "name", "it", (kind, "it", numbers, shape(ins[:-1]), outs))
                    self.refused(BadLanes, "name", "it", (kind, "it", numbers, shape(ins[:-1]), shape(outs + ["z"])))
                if outs:
                    self.refused(BadLanes, "name", "it", (kind, "it", numbers, ins, shape(outs[:-1])))

    def test_the_kind_is_refused_ahead_of_numbers_and_lanes(self):
        self.refused(NoKind, "word", "merge", ("merge", "it", [True, None], [], ["a", "b", "c", "d"]))

    def test_numbers_are_refused_ahead_of_lanes(self):
        for kind in COUNTS:
            numbers, ins, outs = forms(kind)
            self.refused(BadNumbers, "name", "it", (kind, "it", numbers + [1], ins + ["z"], outs))
            self.refused(BadNumbers, "name", "it", (kind, "it", numbers + [1], ins, outs + ["z"]))
        self.refused(BadNumbers, "name", "it", ("heap", "it", [None], [], []))

    def test_the_name_is_told_as_it_was_handed_in(self):
        name = "".join(["No", " name"])
        for row in (("give", name, [1], [], ["a"]), ("give", name, [], [], [])):
            with self.assertRaises((BadNumbers, BadLanes)) as taken:
                part_made(*row)
            self.assertIs(taken.exception.name, name)

    def test_names_and_lanes_are_not_looked_at(self):
        for name in ("", "NO NAME", "toolonganame", "1"):
            self.assertEqual(part_made("pass", name, [], [""], ["No lane"]).name, name)
        part = part_made("order", "o", [], ["a", "a"], ["a", "a"])
        self.assertEqual((part.ins, part.outs), (("a", "a"), ("a", "a")))
        odd = part_made("pass", "p", [], [None], [7])
        self.assertEqual((odd.ins, odd.outs), ((None,), (7,)))

    def test_what_is_handed_in_stays_as_it_was(self):
        numbers, ins, outs = [3, 1], ["a"], ["b"]
        part_made("turn", "t", numbers, ins, outs)
        self.assertEqual((numbers, ins, outs), ([3, 1], ["a"], ["b"]))
        with self.assertRaises(BadLanes):
            part_made("turn", "t", numbers, ins, ["b", "c"])
        self.assertEqual((numbers, ins, outs), ([3, 1], ["a"], ["b"]))

    def test_a_list_changed_later_changes_nothing(self):
        for maker in (part_made, lambda kind, *row: class_of(kind)(*row)):
            for kind in COUNTS:
                numbers, ins, outs = [list(form) for form in forms(kind)]
                part = maker(kind, "it", numbers, ins, outs)
                told = fields(part)
                for handed in (numbers, ins, outs):
                    handed.append(8)
                    handed[0] = 6
                with self.subTest(kind):
                    self.assertEqual(fields(part), told)
                    self.assertEqual(part.start(), 3 if kind == "heap" else 0)

    def test_a_part_never_changes(self):
        for kind in COUNTS:
            part = made(kind)
            told = fields(part)
            heads = [4, 6, 8][:COUNTS[kind][1]]
            for kept in (0, 5):
                part.kind()
                part.start()
                part.lacks(heads)
                part.taking(heads)
                part.worked([4, 6], kept)
                part.with_memory(kept)
                part.lacks([None] * len(heads))
            with self.subTest(kind):
                self.assertEqual(fields(part), told)
                self.assertEqual(sorted(vars(part)), ["ins", "name", "numbers", "outs"])
                self.assertEqual(part.worked([4, 6], 1), made(kind).worked([4, 6], 1))


if __name__ == "__main__":
    unittest.main()
