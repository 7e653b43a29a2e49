"""Texts: rows and Boards as lines, and back."""

from keyspans.board import Board
from keyspans.errors import BadField, BadLine, NoName, Outside
from keyspans.keys import is_name
from keyspans.lanes import row_of
from keyspans.numerals import is_numeral, number_of, written
from keyspans.pipelines import Pipeline
from keyspans.stages import Stage


def row_text(row):
    """A line for each RECORD: its number and its values."""
    lines = []
    for number, values in row:
        lines.append(" ".join([written(number) + ":", *[written(worth) for worth in values]]))
    return "\n".join(lines)


def row_in(keys, text):
    """The ROW with just this text."""
    records = []
    numbers = []
    for at, line in enumerate(_lines_of(text)):
        record = _read_record(line)
        if record is None or len(record[1]) != len(keys) or record[0] in numbers:
            raise BadLine(at)
        records.append(record)
        numbers.append(record[0])
    return row_of(keys, records)


def board_text(board):
    """A line for each service, as they stand, then a line for each limit."""
    services = [f"{name}: {board[name].text}" for name in board.order]
    limits = [f"{name} < {text}" for name, text in board.limits]
    return "\n".join(services + limits)


def board_in(keys, text):
    """The Board with just this text, without logs and with nothing to undo."""
    board = Board(keys)
    for at, line in enumerate(_lines_of(text)):
        if not _puts(board, line) and not _bounds(board, line):
            raise BadLine(at)
    return board.fresh()


def stage_in(keys, text):
    """The Stage that has just this text, None if there is none."""
    try:
        stage = Stage.of(keys, text)
    except (BadField, NoName):
        return None
    return stage if stage.text == text else None


def pipeline_in(keys, text):
    """The Pipeline of a stage or more that has just this text, None if there is none."""
    try:
        pipeline = Pipeline.of(keys, text)
    except (BadField, NoName):
        return None
    return pipeline if text != "" and pipeline.text == text else None


def _lines_of(text):
    # The empty text has no lines.
    return text.split("\n") if text != "" else []


def _read_record(line):
    # The RECORD that is written in a line, None if there is none.
    number, colon, rest = line.partition(":")
    words = rest.split(" ")
    if not is_numeral(number) or colon == "" or words[0] != "":
        return None
    if not all([_is_written(word) for word in words[1:]]):
        return None
    return number_of(number), tuple([_read_number(word) for word in words[1:]])


def _is_written(word):
    return is_numeral(word) or (word.startswith("-") and word != "-0" and is_numeral(word[1:]))


def _read_number(word):
    return -number_of(word[1:]) if word.startswith("-") else number_of(word)


def _puts(board, line):
    # Whether a line is that of a service that can stand here; it then stands there.
    name, sign, text = line.partition(": ")
    if not is_name(name) or sign == "" or name in board or len(board.limits) > 0:
        return False
    stage = stage_in(board.schema, text)
    if stage is None:
        return False
    board[name] = stage.fields
    return True


def _bounds(board, line):
    # Whether a line is that of a limit that can stand here; it then stands there.
    name, sign, text = line.partition(" < ")
    if not is_name(name) or sign == "" or not all([own < name for own, _ in board.limits]):
        return False
    pipeline = pipeline_in(board.schema, text)
    if pipeline is None:
        return False
    try:
        board.limit(name, pipeline)
    except Outside:
        return False
    return True
