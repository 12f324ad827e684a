"""Texts of plans and of walks, and what all texts are made of: lines, words and numbers."""

from stringrooms.errors import NotText
from stringrooms.plans import check_plan
from stringrooms.walks import check_walk

FIGURES = "0123456789"
MOST_FIGURES = 3


def check_text(text):
    """Raise NotText(-1, -1) if a value is no string."""
    if not isinstance(text, str):
        raise NotText(-1, -1)


def is_number(word):
    """Tell whether a word is a number: one to three figures, without a zero ahead of another one."""
    if not 1 <= len(word) <= MOST_FIGURES or not all(sign in FIGURES for sign in word):
        return False
    return word == "0" or word[0] != "0"


def check_word(words, line, at, known):
    """Raise NotText if a word of a line lacks, where it is the next one, or is none of the known ones."""
    if at >= len(words) or words[at] not in known:
        raise NotText(line, at)


def check_end(words, line, at):
    """Raise NotText if a line has a word more."""
    if at < len(words):
        raise NotText(line, at)


def number_at(words, line, at):
    """Return the number that stands at a word of a line; raise NotText if none does."""
    if at >= len(words) or not is_number(words[at]):
        raise NotText(line, at)
    return int(words[at])


def numbers_behind(words, line, many):
    """Return so many numbers that stand behind the first word of a line, just these; NotText otherwise."""
    told = tuple([number_at(words, line, at) for at in range(1, many + 1)])
    check_end(words, line, many + 1)
    return told


def walk_at(words, line, at):
    """Return what is read from a word of a line on as a walk, unjudged, and the place of the word behind it."""
    point = number_at(words, line, at)
    letters = []
    behind = at + 1
    while behind < len(words) and words[behind][:1] in ("+", "-") and is_number(words[behind][1:]):
        arrow = int(words[behind][1:])
        letters.append(arrow if words[behind][0] == "+" else -1 - arrow)
        behind += 1
    return (point, tuple(letters)), behind


def plan_text(plan):
    """Return the text of a plan."""
    size, arrows, noughts = plan
    lines = [f"points {size}"]
    lines.extend([f"arrow {start} {end}" for start, end in arrows])
    lines.extend([f"nought {first} {second}" for first, second in noughts])
    return "\n".join(lines)


def read_plan(text):
    """Return the plan of a text; raise NotText for what can't be read, and then NotPlan for what is no plan."""
    check_text(text)
    lines = [line.split(" ") for line in text.split("\n")]
    check_word(lines[0], 0, 0, ("points",))
    size = numbers_behind(lines[0], 0, 1)[0]
    arrows, noughts = [], []
    for line in range(1, len(lines)):
        words = lines[line]
        check_word(words, line, 0, ("nought",) if noughts else ("arrow", "nought"))
        pair = numbers_behind(words, line, 2)
        if words[0] == "arrow":
            arrows.append(pair)
        else:
            noughts.append(pair)
    return check_plan((size, tuple(arrows), tuple(noughts)))


def walk_text(plan, walk):
    """Return the text of a walk."""
    words = [str(walk[0])]
    words.extend([f"+{letter}" if letter >= 0 else f"-{-1 - letter}" for letter in walk[1]])
    return " ".join(words)


def read_walk(plan, text):
    """Return the walk of a text, which is one line; raise NotText, and then NotWalk for what is no walk."""
    check_text(text)
    words = text.split(" ")
    walk, behind = walk_at(words, 0, 0)
    check_end(words, 0, behind)
    return check_walk(plan, walk)
