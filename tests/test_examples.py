"""The examples of sections 3, 4 and 5 of the document, with the answers that stand there."""

import unittest

from keyspans.errors import Ringed, Unlawful
from keyspans.keys import Keys, field_of, is_field, is_part, parts_of
from keyspans.lanes import (
    costs_of, crossed, exchanges, how_many, lanes, least_stages, next_out, place, pour, row_of, timed, turns_of)
from keyspans.stages import Stage
from tests.helpers import check_raises


class ExamplesTest(unittest.TestCase):

    def setUp(self):
        self.keys = Keys.of("user\nshop tells city")

    def test_section_3(self):
        keys = self.keys
        self.assertEqual(
            (keys.names, keys.pairs, keys.text),
            (("city", "shop", "user"), (("shop", "city"),), "city\nshop\nuser\nshop tells city"))
        self.assertEqual(
            (keys.tells("#", "city"), keys.tells("city", "shop"), keys.told("shop"), "#" in keys, len(keys)),
            (True, False, ("city",), False, 3))
        self.assertEqual(
            (field_of("user/12"), field_of("#"), parts_of("user/12"), is_part("user/6"), is_field("user/1")),
            (("user", 12), ("#", 0), ("user/2", "user/3", "user/4"), False, False))
        check_raises(
            self, Ringed, {"ring": ("a", "b")}, Keys, ("a", "b", "c"), (("a", "b"), ("b", "a"), ("b", "c")))

    def test_section_4(self):
        keys = self.keys
        stage = Stage.of(keys, "shop user/6")
        self.assertEqual(
            (stage["shop"], stage["city"], stage["user"], stage["#"], len(stage), stage.fields),
            (0, 0, 6, 1, 3, ("shop", "user/6")))
        self.assertEqual(
            ("city/5" in stage, "user/3" in stage, "user/4" in stage, "user" in stage, "#" in stage),
            (True, True, False, False, False))
        two = Stage(keys, ("user/4", "city"))
        self.assertEqual(
            ((stage | two).text, (stage & two).text, stage <= two, stage & two < two),
            ("shop user/12", "city user/2", False, True))
        self.assertEqual(
            (stage.lane((7, (1, 10, -9))), stage ^ two), ((1, 10, 3), ((0, (0, 0, 0)), (1, (0, 0, 6)))))
        self.assertEqual(Stage.of(keys, "city") ^ Stage.of(keys, "shop"), ((0, (0, 0, 0)), (1, (0, 1, 0))))

    def test_section_5(self):
        keys = self.keys
        row = row_of(keys, ((1, (1, 10, 4)), (2, (1, 11, 6)), (3, (2, 20, 4)), (4, (1, 10, 9))))
        even = Stage.of(keys, "user/2")
        out = pour(even, row, (0, 1, 0, 0))
        self.assertEqual(
            ([number for number, values in out], [len(lane) for lane in lanes(even, row)], how_many(even, row)),
            ([1, 4, 2, 3], [3, 1], 4))
        self.assertEqual(
            (place(even, row, out), turns_of(even, row, next_out(even, row, out)), costs_of(even, row, out)),
            (2, (1, 0, 0, 0), (1, 2, 1, 2)))
        self.assertEqual(
            (timed(even, row, (0, 0, 0, 5), (1, 2, 1, 2)) == row, exchanges(row, out)), (True, (2, 1)))
        self.assertEqual(
            ([least.text for least in least_stages(keys, row, out)],
             crossed(even, row, (row[2], row[0], row[1], row[3]))),
            (["shop", "user"], (1, 3)))
        check_raises(
            self, Unlawful, {"first": 1, "second": 2, "name": "shop"},
            row_of, keys, ((1, (1, 10, 4)), (2, (2, 10, 5))))


if __name__ == "__main__":
    unittest.main()
