"""[18]: the desk, against a Board that is asked by its own methods."""

import random
import unittest

from keyspans.board import Board
from keyspans.desk import answers
from keyspans.errors import BadLine, Ringed
from keyspans.keys import Keys
from keyspans.pipelines import Pipeline
from keyspans.promises import Promise
from keyspans.stages import Stage
from tests.helpers import check_raises

KEYS = Keys(("city", "shop", "user"), (("shop", "city"),))
STAGES = ("-", "user", "shop", "city user/6", "user/2", "#/3", "shop user", "#")
PIPELINES = ("-", "user; shop", "shop; user", "shop user", "#", "city; shop user; user/2", "-; -", "user/4; user/9; shop user")
NAMES = ("pay", "pack", "ship", "a")


def ask(*requests, keys="user\nshop tells city\n"):
    return answers("\n".join((keys, *requests)))


def some_request(chosen):
    name = chosen.choice(NAMES)
    return chosen.choice((
        f"put {name} {chosen.choice(STAGES)}", f"put {name} {chosen.choice(STAGES)}", f"leave {name}", f"move {name} {chosen.randrange(5)}",
        f"lift {name}", f"limit {name} {chosen.choice(PIPELINES)}", "order " + " ".join(chosen.sample(NAMES, chosen.randrange(1, 5))),
        "order", "arrange", "line", "plain", f"within {chosen.choice(PIPELINES)}", f"effect {name} {chosen.choice(STAGES)}",
        f"keeps {chosen.choice(STAGES)}", "undo"))


def fields_of(text):
    return Stage.of(KEYS, text).fields


def plain_answer(board, request):
    """The answer by the Board's own methods."""
    word, *rest = request.split(" ")
    text = " ".join(rest)
    name, inner = rest[0] if rest else "", " ".join(rest[1:])
    asked = {
        "line": lambda: board.pipeline.text or "-", "plain": lambda: board.pipeline.plain.text or "-",
        "within": lambda: "yes" if board.pipeline <= Pipeline.of(KEYS, text) else "no",
        "effect": lambda: board.effect(name, fields_of(inner)),
        "keeps": lambda: "yes" if all(stage <= Promise(Stage.of(KEYS, text)).stage for stage in board.pipeline.stages) else "no",
        "undo": lambda: "yes" if board.undo() else "no", "arrange": lambda: " ".join(board.arrange())}
    if word in asked:
        return asked[word]()
    deeds = {
        "put": lambda: board.__setitem__(name, fields_of(inner)), "leave": lambda: board.leave(name), "lift": lambda: board.lift(name),
        "move": lambda: board.move(name, int(inner)), "order": lambda: board.reorder(tuple(rest)),
        "limit": lambda: board.limit(name, Pipeline.of(KEYS, inner))}
    try:
        deeds[word]()
    except (LookupError, ValueError) as error:
        return "refused " + type(error).__name__
    return "done"


class AnswersTest(unittest.TestCase):

    def test_against_a_board(self):
        chosen = random.Random(1)
        seen = []
        for _ in range(60):
            requests = [some_request(chosen) for _ in range(30)]
            board = Board(KEYS)
            expected = [plain_answer(board, request) for request in requests]
            self.assertEqual(ask(*requests), expected)
            seen.extend((request.split(" ")[0], answer.split(" ")[0]) for request, answer in zip(requests, expected))
        for kind in (
                ("put", "done"), ("put", "refused"), ("leave", "done"), ("leave", "refused"), ("move", "done"), ("move", "refused"),
                ("limit", "done"), ("limit", "refused"), ("lift", "done"), ("lift", "refused"), ("order", "done"), ("order", "refused"),
                ("within", "yes"), ("within", "no"), ("keeps", "yes"), ("keeps", "no"), ("undo", "yes"), ("undo", "no"),
                ("effect", "same"), ("effect", "less"), ("effect", "more"), ("effect", "neither")):
            self.assertGreater(seen.count(kind), 0, kind)

    def test_each_kind_of_request(self):
        self.assertEqual(
            ask("line", "plain", "arrange", "order", "undo", "undo", "undo", "put b user", "put a shop", "arrange", "line", "move a 1",
                "limit x user; shop", "move b 1", "limit x -", "lift y", "lift x", "order a b", "order a", "order a a", "order a c",
                "leave c", "leave a", "put b -", "line", "plain", "within -", "within user", "keeps -", "effect b user/6", "effect c -",
                "put b user/4", "put c user/6", "keeps user/12", "keeps user/4", "keeps #", "within user/4; user/6", "plain", "move b 2"),
            ["-", "-", "", "done", "yes", "yes", "no", "done", "done", "a b", "shop; user", "done", "done", "refused Outside",
             "refused Outside", "refused NoLimit", "done", "done", "refused BadOrder", "refused NoService", "refused NoService",
             "refused NoService", "done", "done", "-", "-", "yes", "yes", "yes", "more", "same", "done", "done", "yes", "no", "yes", "yes",
             "user/4; user/6", "refused NoPlace"])

    def test_refused_stays(self):
        self.assertEqual(
            ask("put a user", "limit x user", "put b shop", "move a 7", "leave b", "order b", "undo", "undo", "undo", "line"),
            ["done", "done", "refused Outside", "refused NoPlace", "refused NoService", "refused NoService", "yes", "yes", "no", "-"])

    def test_many_places_and_numbers(self):
        self.assertEqual(ask("put a user", f"move a {10 ** 100}", "move a 0", "move a " + "9" * 900), [
            "done", "refused NoPlace", "done", "refused NoPlace"])
        self.assertEqual(ask("put a user/999983", "put a user/999966000289", "line"), ["done", "done", "user/999966000289"])

    def test_sixty_lines(self):
        requests = [f"put {'ab'[at % 2]} user/{at + 2}" for at in range(55)]
        self.assertEqual(ask(*requests), ["done"] * 55)
        chosen = random.Random(2)
        requests = [f"put {'abcdefgh'[at % 8]} " + Stage(KEYS, (f"user/{chosen.randrange(10 ** 5, 10 ** 6)}", "city")).text for at in range(40)]
        self.assertEqual(ask(*requests, "arrange"), ["done"] * 40 + ["a b c d e f g h"])

    def test_without_requests(self):
        for text in ("", "item\n", "item\nuser\n", "a tells b\n", "  \n", " a \n  \n"):
            self.assertEqual(answers(text), [])
            self.assertEqual(answers(text=text), [])
        self.assertEqual(answers("\nline\nput a -"), ["-", "done"])
        self.assertEqual(answers("\nput a #/6\nline"), ["done", "#/6"])

    def test_the_list_belongs_to_the_caller(self):
        made = answers("\nline")
        self.assertIs(type(made), list)
        made.clear()
        self.assertEqual(answers("\nline"), ["-"])


class BadLinesTest(unittest.TestCase):

    def test_lines_of_the_keys(self):
        for text, number in (
                ("item\nUser\n\nline", 1), ("a b\n\nxyz", 0), ("item\na tells\n\n", 1), ("item\nuser\n \n#\n\n", 3), ("a tells a b\n", 0)):
            check_raises(self, BadLine, {"number": number}, answers, text)
        check_raises(self, Ringed, {"ring": ("a", "b")}, answers, "a tells b\nb tells a\n\nxyz")
        check_raises(self, BadLine, {"number": 1}, answers, "a tells a\nx y\n\nxyz")

    def test_without_an_empty_line(self):
        for text, number in (
                ("item", 1), ("item\nuser", 2), (" ", 1), ("item\n  \nuser\n ", 4), ("item\nput a item", 1), ("#", 0), ("a tells a\n1", 1)):
            check_raises(self, BadLine, {"number": number}, answers, text)
        check_raises(self, Ringed, {"ring": ("a",)}, answers, "b\na tells a")

    def test_requests_that_are_not_so_written(self):
        for line in (
                "", " ", "xyz", "Line", "line ", " line", "line line", "plain -", "undo 1", "arrange a", "put", "put a", "put a ", "put  a -",
                "put a  -", "put a - ", "put A -", "put # -", "put abcdefghi -", "put a nobody", "put a user shop", "put a shop city",
                "put a user/1", "put a user/06", "put a user/2 user/3", "put a user; shop", "put a shop user/6;", "put a -; -", "put - user",
                "put a # user", "put a - user", "put a\tuser", "leave", "leave a b", "leave A", "leave #", "lift", "lift a b", "lift 1",
                "move", "move a", "move a b", "move a -1", "move a +1", "move a 01", "move a 1 2", "move a 1.0", "move A 1", "move 1 a",
                "move a \u0661", "limit", "limit a", "limit a ", "limit a user;shop", "limit a user;  shop", "limit a user; shop;",
                "limit a user; shop; ", "limit a nobody", "limit A user", "limit a user shop", "limit a user; shop city", "order A", "order a ",
                "order a  b", "order #", "order a 1", "order -", "within", "within ", "within nobody", "within user shop", "within user;shop",
                "within a user", "within user/1", "effect", "effect a", "effect a user shop", "effect A user", "effect a nobody", "effect user -x",
                "keeps", "keeps ", "keeps nobody", "keeps user shop", "keeps a user", "keeps user; shop", "keeps user/0", "do line",
                "set a user", "send", "twin", "attempt", "put a user\r", "\u00e9"):
            with self.subTest(line):
                check_raises(self, BadLine, {"number": 5}, ask, "put a user", "leave x", line)
                check_raises(self, BadLine, {"number": 5}, ask, "put a user", "leave x", line, "xyz", "line")
        check_raises(self, BadLine, {"number": 1}, answers, "\n")
        check_raises(self, BadLine, {"number": 2}, answers, "item\n\n")
        check_raises(self, BadLine, {"number": 3}, answers, "item\n\nline\n")

    def test_the_first_empty_line_parts(self):
        check_raises(self, BadLine, {"number": 1}, answers, "\nitem\n\nput a item")
        self.assertEqual(answers(" \n\nline"), ["-"])


if __name__ == "__main__":
    unittest.main()
