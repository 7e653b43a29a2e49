"""[17]: rows and Boards as texts."""

import random
import unittest

from keyspans.board import Board
from keyspans.errors import BadLine, Unlawful
from keyspans.keys import Keys
from keyspans.pipelines import Pipeline
from keyspans.texts import board_in, board_text, row_in, row_text
from tests.helpers import check_raises, random_row

KEYS = Keys.of("user\nshop tells city")
NOTHING = Keys(())
ODD = ("", " ", "\n", "\t", "x", "1", ":", "1:", "-", "\u0661: 1 1 1", "1: \u0661 1 1", "a\nb", "\r", "1: 1 1 1\r", "\x00", "caf\xe9: -")


class RowTest(unittest.TestCase):

    def test_text(self):
        for row, text in (
                ((), ""), (((7, (1, -4, 0)),), "7: 1 -4 0"), (((7, (1, -4, 0)), (3, (1, 5, 9))), "7: 1 -4 0\n3: 1 5 9"),
                (((0, (0, 0, 0)), (10 ** 100, (-(10 ** 100), 1, 2))), f"0: 0 0 0\n{10 ** 100}: -{10 ** 100} 1 2")):
            self.assertEqual(row_text(row), text)
            self.assertEqual(row_text([[number, list(values)] for number, values in row]), text)
            self.assertEqual(row_in(KEYS, text), row)
        self.assertEqual(row_text(row=((4, ()), (2, ()))), "4:\n2:")
        self.assertEqual(row_in(keys=NOTHING, text="4:\n2:"), ((4, ()), (2, ())))
        self.assertEqual(row_in(NOTHING, ""), ())

    def test_there_and_back(self):
        chosen = random.Random(1)
        for _ in range(60):
            row = random_row(chosen, KEYS, 6, (0, 1, -1, 12, -10 ** 100, 10 ** 99))
            text = row_text(row)
            self.assertEqual(text, "\n".join(f"{number}: " + " ".join(str(worth) for worth in values) for number, values in row))
            self.assertEqual(row_in(KEYS, text), row)

    def test_lines_that_are_not_so_written(self):
        good = "7: 1 -4 0\n3: 1 5 9"
        for line in (
                "", " ", "5", "5:", "5: ", "5: 1 2", "5: 1 2 3 4", " 5: 1 2 3", "5 : 1 2 3", "5:1 2 3", "5:  1 2 3", "5: 1  2 3",
                "5: 1 2 3 ", "05: 1 2 3", "-5: 1 2 3", "+5: 1 2 3", "5: 01 2 3", "5: -0 2 3", "5: +1 2 3", "5: 1 2 -", "5: 1 2 --3",
                "5: 1 2 - 3", "5: 1_0 2 3", "5: 1 2 3:", "5: 1: 2 3", ": 1 2 3", "5: a 2 3", "5: 1,2,3", "5: 1 2 3\r", "5:\t1 2 3",
                "5: 1 2 3.0", "5: 1 2 \u0663", "\u0665: 1 2 3", "5: 1 2 \xb2", "x: 1 2 3", "5: 0x1 2 3", "7: 1 2 3", "3: 1 2 3"):
            check_raises(self, BadLine, {"number": 2}, row_in, KEYS, good + "\n" + line)
            check_raises(self, BadLine, {"number": 2}, row_in, KEYS, good + "\n" + line + "\n6: 1 2 3\n6: x")
        for text, number in (("\n", 0), ("7: 1 -4 0\n", 1), ("\n7: 1 -4 0", 0), ("7: 1 -4 0\n\n3: 1 5 9", 1), ("x\ny", 0)):
            check_raises(self, BadLine, {"number": number}, row_in, KEYS, text)
        for line in ("4: ", "4", ": ", "4:0", "4: 0", "4:4:"):
            check_raises(self, BadLine, {"number": 0}, row_in, NOTHING, line)
        check_raises(self, BadLine, {"number": 1}, row_in, NOTHING, "4:\n4:")

    def test_unlawful_comes_behind(self):
        held = {"first": 1, "second": 2, "name": "shop"}
        check_raises(self, Unlawful, held, row_in, KEYS, "1: 1 4 0\n2: 2 4 0")
        check_raises(self, Unlawful, held, row_in, KEYS, "1: 1 4 0\n5: 1 5 0\n2: 2 4 0\n3: 2 5 0")
        check_raises(self, BadLine, {"number": 2}, row_in, KEYS, "1: 1 4 0\n2: 2 4 0\n2: 1 4 0")
        check_raises(self, BadLine, {"number": 2}, row_in, KEYS, "1: 1 4 0\n2: 2 4 0\n")

    def test_any_string(self):
        for text in ODD:
            if text != "":
                check_raises(self, BadLine, {"number": 0}, row_in, KEYS, text)
        long = "1" + "0" * 5000
        row = row_in(KEYS, f"{long}: -{long} 0 {long}")
        self.assertEqual(row, ((10 ** 5000, (-(10 ** 5000), 0, 10 ** 5000)),))
        self.assertEqual(row_text(row), f"{long}: -{long} 0 {long}")

    def test_sixty_lines(self):
        text = "\n".join(f"{at}: {10 ** 100 + at} {-at} 0" for at in range(60))
        self.assertEqual(row_text(row_in(KEYS, text)), text)


class BoardTextTest(unittest.TestCase):

    def test_text(self):
        board = Board(KEYS)
        self.assertEqual(board_text(board), "")
        board["pay"] = ("shop", "user/2", "user/3")
        board["a"] = ()
        board.limit("zoo", Pipeline.of(KEYS, "shop user; -"))
        board.limit("own", Pipeline.of(KEYS, "#"))
        self.assertEqual(board_text(board=board), "pay: shop user/6\na: -\nown < #\nzoo < shop user; -")
        empty = Board(KEYS)
        empty.limit("none", Pipeline(KEYS))
        self.assertEqual(board_text(empty), "none < -")
        self.assertEqual(board_in(KEYS, "none < -"), empty)

    def test_there_and_back(self):
        for text in (
                "", "pay: -", "pay: shop user/6\npack: -\nowner < shop user", "a: city", "a < -", "a < -; -",
                "b: user\na: user\nb < user\nc < user; user", "z: #\nz < #", "abcdefgh: user/1000003\nabcdefgh < user"):
            board = board_in(KEYS, text)
            self.assertEqual(board_text(board), text)
            self.assertEqual((board.logs, board.undo(), board.schema), ((), False, KEYS))
            self.assertEqual(board_in(keys=KEYS, text=board_text(board)), board)

    def test_what_is_read_changes_as_others_do(self):
        board = board_in(KEYS, "pay: user\nowner < user; shop")
        board["pack"] = ("shop",)
        self.assertEqual((board_text(board), board.undo(), board.undo()), ("pay: user\npack: shop\nowner < user; shop", True, False))
        self.assertEqual(board_text(board), "pay: user\nowner < user; shop")

    def test_logs_and_deeds_are_not_written(self):
        board = Board(NOTHING)
        board["a"] = ()
        board.send((), ((),))
        again = board_in(NOTHING, board_text(board))
        self.assertEqual((again.logs, again.undo(), again == board), ((), False, False))

    def test_lines_that_cannot_stand_there(self):
        good = "pay: user\npack: shop\nowner < user; shop"
        for line in (
                "", " ", "new: user", "pay: -", "owner < #", "a < #", "owner < user; shop", "z < user", "z < shop; user", "z < -",
                "z < nobody", "z < user/1", "z < user;shop", "z < user ; shop", "z < user;  shop", "z <  #", "z< #", "z <#", " z < #",
                "z < # ", "z < ", "z <", "z", "Z < #", "zzzzzzzzz < #", "# < #", "z < user shop", "z < shop city user", "z < user/6 shop user",
                "z < user; shop; ", "z < #; user;", "z: #", "z = #", "z > #", "z < user/2; shop", "z1 < #", "z < # < #", " < #"):
            check_raises(self, BadLine, {"number": 3}, board_in, KEYS, good + "\n" + line)
            check_raises(self, BadLine, {"number": 3}, board_in, KEYS, good + "\n" + line + "\nx")
        for line in (
                "", " ", "pay: user", "new:user", "new : user", "new:  user", " new: user", "new: user ", "new:", "new: ", "new", "New: user",
                "newnewnew: user", "#: user", ": user", "new: user shop", "new: shop city", "new: user/6 shop", "new: shop  user",
                "new: user/2 user/3", "new: nobody", "new: user/1", "new: user/0", "new: user/06", "new: user; shop", "new: - user",
                "new: user -", "new: --", "new: shop user/6;", "new: # user", "new < shop", "own < -"):
            check_raises(self, BadLine, {"number": 2}, board_in, KEYS, "pay: user\npack: shop\n" + line)
        for text, number in (("\n", 0), ("pay: user\n", 1), ("\npay: user", 0), ("own < -\npay: -", 1), ("b < #\na < #", 1)):
            check_raises(self, BadLine, {"number": number}, board_in, KEYS, text)

    def test_any_string(self):
        for text in ODD:
            if text != "":
                check_raises(self, BadLine, {"number": 0}, board_in, KEYS, text)


if __name__ == "__main__":
    unittest.main()
