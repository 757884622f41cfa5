"""Kinds as texts: written, and read line by line."""

from makerlines.errors import BadText
from makerlines.terms import is_word

DIGITS = "0123456789"


def written(modes, fields, calls):
    """Return the text of a kind with these modes, fields and calls."""
    lines = [f"modes {modes}"]
    for name, sort, need in fields:
        lines.append(f"field {name} {sort} need" if need else f"field {name} {sort}")
    for call in calls:
        lines.extend(call_lines(call))
    return "".join([f"{line}\n" for line in lines])


def call_lines(call):
    """Return the lines of one call."""
    name, hand, moves, deeds, same = call
    numbers = [str(move) for move in moves]
    lines = [" ".join(["call", name, hand, *numbers])]
    lines.extend([f"do {deed} {field}" for deed, field in deeds])
    lines.extend([f"same {field}" for field in same])
    return lines


class Draft:
    """What has been read of a text so far; it need not be a kind."""

    def __init__(self):
        self.modes = None
        self.field_items = []
        self.call_items = []


def read_draft(text):
    """Return the draft of a text; BadText for the first line that cannot stand there."""
    if not isinstance(text, str):
        raise BadText(1)
    lines = text.split("\n")
    draft = Draft()
    for number, line in enumerate(lines[:-1], start=1):
        if not put_line(draft, line.split(" ")):
            raise BadText(number)
    # Behind the last line feed stands nothing; and the empty text has no first line.
    if lines[-1] != "" or len(lines) == 1:
        raise BadText(len(lines))
    return draft


def put_line(draft, parts):
    """Put the line with these parts into the draft; tell whether it can stand there."""
    head = parts[0]
    if head == "modes":
        return put_modes(draft, parts)
    if draft.modes is None:
        return False
    if head == "field":
        return put_field(draft, parts)
    if head == "call":
        return put_call(draft, parts)
    if head == "do":
        return put_deed(draft, parts)
    if head == "same":
        return put_same(draft, parts)
    return False


def put_modes(draft, parts):
    """Put a line `modes N`, which only the first one can be."""
    if draft.modes is not None or len(parts) != 2 or not is_number(parts[1]):
        return False
    draft.modes = number_of(parts[1])
    return True


def put_field(draft, parts):
    """Put a line `field NAME SORT` or `field NAME SORT need`, ahead of all calls."""
    need = parts[3:] == ["need"]
    if len(parts) != (4 if need else 3) or not are_words(parts[1:3]):
        return False
    if len(draft.call_items) > 0:
        return False
    draft.field_items.append((parts[1], parts[2], need))
    return True


def put_call(draft, parts):
    """Put a line `call NAME HAND` with any number of moves."""
    if len(parts) < 3 or not are_words(parts[1:3]):
        return False
    if not all([part == "-1" or is_number(part) for part in parts[3:]]):
        return False
    moves = [move_of(part) for part in parts[3:]]
    draft.call_items.append((parts[1], parts[2], moves, [], []))
    return True


def put_deed(draft, parts):
    """Put a line `do DEED FIELD` into the latest call, ahead of its same."""
    if len(parts) != 3 or not are_words(parts[1:]) or len(draft.call_items) == 0:
        return False
    name, hand, moves, deeds, same = draft.call_items[-1]
    if len(same) > 0:
        return False
    deeds.append((parts[1], parts[2]))
    return True


def put_same(draft, parts):
    """Put a line `same FIELD` into the latest call."""
    if len(parts) != 2 or not are_words(parts[1:]) or len(draft.call_items) == 0:
        return False
    name, hand, moves, deeds, same = draft.call_items[-1]
    same.append(parts[1])
    return True


def are_words(parts):
    """Tell whether all parts of a line are words."""
    return all([is_word(part) for part in parts])


def is_number(part):
    """Tell whether a part of a line is a number in digits without leading zeros."""
    if part == "" or not all([sign in DIGITS for sign in part]):
        return False
    return part == "0" or part[0] != "0"


def number_of(part):
    """Return the number that these digits tell."""
    # Digit by digit, since Python's own reading refuses numbers of some thousand digits.
    number = 0
    for sign in part:
        number = number * 10 + int(sign)
    return number


def move_of(part):
    """Return the move that this part of a line tells."""
    return -1 if part == "-1" else number_of(part)
