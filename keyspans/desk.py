"""Desk: a Board that is asked by lines of text."""

from keyspans.board import Board
from keyspans.errors import BadLine, Stopped
from keyspans.keys import Keys, is_name
from keyspans.numerals import is_numeral, number_of
from keyspans.promises import Promise
from keyspans.texts import pipeline_in, stage_in

# Requests of a single word.
_ALONE = ("arrange", "line", "plain", "undo")

# Requests that are deeds.
_DEEDS = ("put", "leave", "move", "lift", "limit", "order", "arrange")


def answers(text):
    """The answers to the requests of a text, behind the Keys and an empty line."""
    lines = text.split("\n")
    if "" not in lines:
        # Keys that are refused are told first.
        Keys.of(text)
        raise BadLine(len(lines))
    first = lines.index("") + 1
    keys = Keys.of("\n".join(lines[:first - 1]))
    requests = []
    for at, line in enumerate(lines[first:], start=first):
        request = _request_in(keys, line)
        if request is None:
            raise BadLine(at)
        requests.append(request)
    board = Board(keys)
    return [_answer(board, request) for request in requests]


def _request_in(keys, line):
    # The word of a request and what it asks with, None for a line that is not so written.
    words = line.split(" ")
    if "" in words:
        return None
    word, rest = words[0], words[1:]
    if word in _ALONE:
        return (word,) if len(rest) == 0 else None
    if word == "order":
        return (word, rest) if all([is_name(name) for name in rest]) else None
    if word == "within":
        return _complete((word, pipeline_in(keys, " ".join(rest))))
    if word == "keeps":
        return _complete((word, stage_in(keys, " ".join(rest))))
    if len(rest) == 0 or not is_name(rest[0]):
        return None
    return _request_of_name(keys, word, rest[0], " ".join(rest[1:]))


def _request_of_name(keys, word, name, text):
    if word in ("leave", "lift"):
        return (word, name) if text == "" else None
    if word == "move":
        return (word, name, number_of(text)) if is_numeral(text) else None
    if word == "limit":
        return _complete((word, name, pipeline_in(keys, text)))
    if word in ("put", "effect"):
        return _complete((word, name, stage_in(keys, text)))
    return None


def _complete(request):
    # A request, None if what it asks with could not be read.
    return None if request[-1] is None else request


def _answer(board, request):
    word = request[0]
    if word in _DEEDS:
        return _answer_of_deed(board, request)
    if word == "undo":
        return _yes_or_no(board.undo())
    if word == "effect":
        return board.effect(request[1], request[2].fields)
    if word == "line":
        return board.pipeline.text or "-"
    if word == "plain":
        return board.pipeline.plain.text or "-"
    if word == "within":
        return _yes_or_no(board.pipeline <= request[1])
    promise = Promise(request[1])
    return _yes_or_no(promise(board.pipeline))


def _answer_of_deed(board, request):
    word = request[0]
    deed = ("set", request[1], request[2].fields) if word == "put" else request
    try:
        returned = board.attempt((deed,))
    except Stopped as stopped:
        return "refused " + stopped.word
    return " ".join(returned[0]) if word == "arrange" else "done"


def _yes_or_no(holds):
    return "yes" if holds else "no"
