"""Claims of walks: whether they are claims, whether they hold, and their texts."""

from stringrooms.bending import bends
from stringrooms.errors import NotPaper, NotWalk
from stringrooms.helping import is_below
from stringrooms.maps import is_brick
from stringrooms.peace import are_peaceful
from stringrooms.pieces import map_number
from stringrooms.rests import rest_of
from stringrooms.texts import check_end, check_text, check_word, number_at, walk_at, walk_text
from stringrooms.translating import back, forth, middle
from stringrooms.walks import check_walk, string_of

# The arguments of the plain claims; those of LONG may have walks behind these.
ARGUMENTS = {"string": ("walk",), "brick": ("walk",), "hull": ("walk",), "cover": ("walk",),
             "peace": ("walk", "walk"), "forth": ("walk", "walk"),
             "maps": ("walk", "walk", "number"), "bends": ("walk", "walk", "number"),
             "rest": ("walk",), "middle": ("walk",)}
LONG = ("rest", "middle")
MOST_NUMBER = 999


def check_claim(plan, value):
    """Return the value if it is a claim; raise NotPaper with the first word of what is broken otherwise."""
    plain = value
    if isinstance(value, tuple) and value and isinstance(value[0], str) and value[0] == "not":
        if len(value) != 2:
            raise NotPaper("many")
        plain = value[1]
    if not isinstance(plain, tuple) or not plain or not isinstance(plain[0], str) or plain[0] not in ARGUMENTS:
        raise NotPaper("form")
    kinds = ARGUMENTS[plain[0]]
    if plain[0] in LONG:
        kinds = kinds + ("walk",) * (len(plain) - 2)
    if len(plain) - 1 != len(kinds):
        raise NotPaper("many")
    for kind, argument in zip(kinds, plain[1:]):
        if kind == "walk" and not _is_walk(plan, argument):
            raise NotPaper("walk")
    if kinds[-1] == "number" and not is_below(plain[-1], 0, MOST_NUMBER + 1):
        raise NotPaper("number")
    return value


def _is_walk(plan, value):
    try:
        check_walk(plan, value)
    except NotWalk:
        return False
    return True


def holds(plan, claim):
    """Tell whether a claim holds."""
    word, walk = claim[0], claim[1]
    if word == "not":
        return not holds(plan, claim[1])
    if word == "string":
        return walk == string_of(plan, walk)
    if word == "brick":
        return is_brick(plan, walk)
    if word == "hull":
        return forth(plan, walk) is None
    if word == "cover":
        return back(plan, walk) is None
    if word == "peace":
        return are_peaceful(plan, walk, claim[2])
    if word == "forth":
        return forth(plan, walk) == string_of(plan, claim[2])
    if word == "maps":
        return map_number(plan, walk, claim[2]) == claim[3]
    if word == "bends":
        return bends(plan, walk, claim[2]) == claim[3]
    several = rest_of(plan, walk) if word == "rest" else middle(plan, walk)
    return several == tuple(sorted([string_of(plan, other) for other in claim[2:]]))


def opposite(claim):
    """Return the claim that holds exactly if a claim does not."""
    return claim[1] if claim[0] == "not" else ("not", claim)


def claim_text(plan, claim):
    """Return the text of a claim."""
    if claim[0] == "not":
        return "not " + claim_text(plan, claim[1])
    told = [walk_text(plan, argument) if isinstance(argument, tuple) else str(argument) for argument in claim[1:]]
    return claim[0] + " " + " ; ".join(told)


def read_claim(plan, text):
    """Return the claim of a text, which is one line; raise NotText, and then NotPaper for what is no walk."""
    check_text(text)
    return claim_in(plan, text, 0)


def claim_in(plan, text, line):
    """Return the claim of the text of a line, told by its number in errors; raise NotText and NotPaper likewise."""
    words = text.split(" ")
    at = 1 if words[0] == "not" else 0
    check_word(words, line, at, list(ARGUMENTS))
    told = [words[at]]
    for kind in ARGUMENTS[words[at]]:
        if len(told) > 1:
            check_word(words, line, at, (";",))
        if kind == "walk":
            argument, at = walk_at(words, line, at + 1)
        else:
            argument, at = number_at(words, line, at + 1), at + 2
        told.append(argument)
    while told[0] in LONG and at < len(words):
        check_word(words, line, at, (";",))
        argument, at = walk_at(words, line, at + 1)
        told.append(argument)
    check_end(words, line, at)
    plain = tuple(told)
    return check_claim(plan, ("not", plain) if words[0] == "not" else plain)
