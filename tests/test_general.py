"""[2]: lists for tuples, arguments by name, arguments that stay as they are, new lists."""

import copy
import unittest

from keyspans.errors import Doubled, NoName, Ringed, Unlawful
from keyspans.keys import Keys, field_of, is_field, is_part, parts_of
from keyspans.lanes import (
    costs_of, crossed, exchanges, how_many, is_row, lanes, least_stages, next_out, nth, outs, passes, place, pour, row_of,
    timed, turns_of, value)
from keyspans.stages import Stage
from tests.calls import CallsChecks, inner_lists, kinds, with_lists
from tests.helpers import check_raises

KEYS = Keys(("city", "shop", "user"), (("shop", "city"),))
STAGE = Stage(KEYS, ("user/3",))
ROW = ((3, (1, 10, 4)), (0, (1, 11, -6)), (7, (2, 20, 4)), (4, (1, 10, 9)))
OUT = (ROW[1], ROW[0], ROW[3], ROW[2])
BARRED = ROW[::-1]

# Each call with its arguments, by the names that the interface shows; outs is listed to compare what comes.
CALLS = (
    (row_of, {"keys": KEYS, "records": ROW}),
    (value, {"keys": KEYS, "record": ROW[1], "field": "user/4"}),
    (lanes, {"stage": STAGE, "row": ROW}),
    (passes, {"stage": STAGE, "row": ROW, "out": OUT}),
    (passes, {"stage": STAGE, "row": ROW, "out": BARRED}),
    (crossed, {"stage": STAGE, "row": ROW, "out": OUT}),
    (crossed, {"stage": STAGE, "row": ROW, "out": BARRED}),
    (pour, {"stage": STAGE, "row": ROW, "turns": (1, 0, 1, 0)}),
    (turns_of, {"stage": STAGE, "row": ROW, "out": OUT}),
    (timed, {"stage": STAGE, "row": ROW, "arrivals": (0, 0, 1, 2), "costs": (4, 1, 0, 1)}),
    (costs_of, {"stage": STAGE, "row": ROW, "out": OUT}),
    (how_many, {"stage": STAGE, "row": ROW}),
    (nth, {"stage": STAGE, "row": ROW, "k": 3}),
    (place, {"stage": STAGE, "row": ROW, "out": OUT}),
    (next_out, {"stage": STAGE, "row": ROW, "out": OUT}),
    (exchanges, {"row": ROW, "out": OUT}),
    (least_stages, {"keys": KEYS, "row": ROW, "out": BARRED}),
    (STAGE.lane, {"record": ROW[0]}),
    (STAGE.same, {"one": ROW[0], "other": ROW[2]}),
    (KEYS.tells, {"one": "shop", "other": "city"}),
    (KEYS.told, {"name": "#"}),
    (field_of, {"text": "user/12"}),
    (parts_of, {"text": "user/12"}),
    (is_field, {"thing": "user/12"}),
    (is_part, {"thing": "user/12"}),
    (is_row, {"keys": KEYS, "thing": ROW}),
    (Keys, {"names": ("b", "a", "b"), "tells": (("a", "b"),)}),
    (Keys.of, {"text": "a tells b"}),
    (Stage, {"keys": KEYS, "fields": ("user/4", "shop")}),
    (Stage.of, {"keys": KEYS, "text": "user/4 shop"}),
)


class CallsTest(CallsChecks, unittest.TestCase):

    calls = CALLS
    taking_things = (is_field, is_part, is_row)

    def test_outs(self):
        expected = list(outs(STAGE, ROW))
        self.assertEqual(list(outs(stage=STAGE, row=ROW)), expected)
        self.assertEqual(list(outs(STAGE, ROW)), expected)
        for changed in (with_lists, inner_lists):
            self.assertEqual(list(outs(STAGE, changed(ROW))), expected)
        row = with_lists(ROW)
        list(outs(STAGE, row))
        self.assertEqual(row, with_lists(ROW))

    def test_lists_for_some_of_the_arguments(self):
        for changed in (with_lists, inner_lists):
            self.assertEqual(passes(STAGE, ROW, changed(OUT)), True)
            self.assertEqual(passes(STAGE, changed(ROW), OUT), True)
            self.assertEqual(passes(STAGE, changed(ROW), BARRED), False)
            self.assertEqual(place(STAGE, ROW, changed(OUT)), place(STAGE, changed(ROW), OUT))

    def test_a_list_is_no_thing_that_is_described_as_a_tuple(self):
        self.assertIs(is_row(KEYS, ROW), True)
        for depth in (1, 2, 3):
            self.assertIs(is_row(KEYS, with_lists(ROW, depth)), False)
        self.assertIs(is_row(KEYS, inner_lists(ROW)), False)
        self.assertIs(is_row(KEYS, ROW[:3] + ((4, [1, 10, 9]),)), False)
        self.assertIs(is_row(KEYS, ROW[:3] + ([4, (1, 10, 9)],)), False)

    def test_arguments_of_calls_that_raise_stay_as_they_are(self):
        for error, held, records in (
                (Doubled, {"number": 1}, [[1, [1, 1, 1]], [1, [1, 1, 1]]]),
                (Unlawful, {"first": 1, "second": 2, "name": "shop"}, [[1, [1, 1, 1]], [2, [2, 1, 1]]])):
            before = copy.deepcopy(records)
            check_raises(self, error, held, row_of, KEYS, records)
            self.assertEqual(records, before)
        for error, held, tells in ((NoName, {"name": "x"}, [["a", "x"]]), (Ringed, {"ring": ("a",)}, [["a", "a"]])):
            before = copy.deepcopy(tells)
            check_raises(self, error, held, Keys, ["a"], tells)
            self.assertEqual(tells, before)

    def test_kinds_of_results(self):
        self.assertIs(type(lanes(STAGE, ROW)), list)
        self.assertIs(type(lanes(STAGE, ROW)[0]), tuple)
        self.assertIs(type(least_stages(KEYS, ROW, OUT)), list)
        for result in (
                pour(STAGE, ROW, (0, 0, 1, 1)), turns_of(STAGE, ROW, OUT), timed(STAGE, ROW, (0,) * 4, (0,) * 4),
                costs_of(STAGE, ROW, OUT), nth(STAGE, ROW, 0), next_out(STAGE, ROW, OUT), exchanges(ROW, OUT),
                row_of(KEYS, ROW), field_of("a"), parts_of("a"), KEYS.names, KEYS.pairs, KEYS.pairs[0], KEYS.told("#"),
                STAGE.fields, STAGE.lane(ROW[0]), crossed(STAGE, ROW, BARRED), STAGE ^ Stage(KEYS, ())):
            self.assertIs(type(result), tuple)
        for result in (
                passes(STAGE, ROW, OUT), is_row(KEYS, ROW), is_field("a"), is_part("a"), STAGE.same(ROW[0], ROW[1]),
                KEYS.tells("#", "user"), "user" in KEYS, "user" in STAGE, STAGE == STAGE, STAGE <= STAGE, STAGE < STAGE,
                KEYS == KEYS):
            self.assertIs(type(result), bool)
        for result in (how_many(STAGE, ROW), place(STAGE, ROW, OUT), value(KEYS, ROW[0], "user"), STAGE["user"]):
            self.assertIs(type(result), int)

    def test_a_returned_list_belongs_to_the_caller(self):
        for call, arguments in ((lanes, (STAGE, ROW)), (least_stages, (KEYS, ROW, OUT))):
            first = call(*arguments)
            expected = list(first)
            first.clear()
            self.assertEqual(call(*arguments), expected)

    def test_results_may_be_passed_in_again(self):
        self.assertTrue(is_row(KEYS, pour(STAGE, with_lists(ROW), [0, 0, 1, 1])))
        self.assertTrue(is_row(KEYS, timed(STAGE, with_lists(ROW), [0] * 4, [1] * 4)))
        for out in outs(STAGE, with_lists(ROW)):
            self.assertTrue(is_row(KEYS, out))
            self.assertTrue(passes(STAGE, ROW, out))
        for lane in lanes(STAGE, with_lists(ROW)):
            self.assertTrue(is_row(KEYS, lane))
        self.assertEqual(Keys(KEYS.names, KEYS.pairs), KEYS)
        self.assertEqual(Stage(KEYS, parts_of("user/12")), Stage(KEYS, ("user/12",)))


class CopiesTest(unittest.TestCase):

    def test_objects_copy_their_arguments(self):
        names, pair = ["a", "b"], ["a", "b"]
        tells = [pair]
        keys = Keys(names, tells)
        names.append("c")
        pair.reverse()
        tells.clear()
        self.assertEqual(keys, Keys(("a", "b"), (("a", "b"),)))
        fields = ["a/2"]
        stage = Stage(keys, fields)
        fields.append("b")
        self.assertEqual((stage.text, stage["b"]), ("a/2", 1))


if __name__ == "__main__":
    unittest.main()
