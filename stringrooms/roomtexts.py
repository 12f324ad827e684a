"""Texts of rooms."""

from stringrooms.errors import NotText
from stringrooms.rooms import check_room
from stringrooms.texts import check_end, check_text, check_word, numbers_behind


def room_text(plan, room):
    """Return the text of a room."""
    units, tables = room
    lines = [_line("units", units)]
    for arrow, table in enumerate(tables):
        lines.append(_line("table", (arrow,)))
        lines.extend([_line("row", row) for row in table])
    return "\n".join(lines)


def _line(word, numbers):
    return " ".join([word] + [str(number) for number in numbers])


def read_room(plan, prime, text):
    """Return the room of a text; raise NotText for what can't be read, and then NotRoom for what is no room."""
    check_text(text)
    lines = [line.split(" ") for line in text.split("\n")]
    check_word(lines[0], 0, 0, ("units",))
    units = numbers_behind(lines[0], 0, plan[0])
    tables = []
    at = 1
    for arrow, (start, end) in enumerate(plan[1]):
        words = _words_at(lines, at, "table")
        check_word(words, at, 1, (str(arrow),))
        check_end(words, at, 2)
        rows = []
        for line in range(at + 1, at + 1 + units[start]):
            rows.append(numbers_behind(_words_at(lines, line, "row"), line, units[end]))
        tables.append(tuple(rows))
        at += 1 + units[start]
    if at < len(lines):
        raise NotText(at, 0)
    return check_room(plan, prime, (units, tuple(tables)))


def _words_at(lines, at, word):
    """Return the words of a line that begins with a word; raise NotText if the line lacks, or does not."""
    if at >= len(lines):
        raise NotText(len(lines), 0)
    check_word(lines[at], at, 0, (word,))
    return lines[at]
