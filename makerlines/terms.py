"""What counts as a word, as an integer and as a list."""

MOST_LETTERS = 8


def is_word(thing):
    """Tell whether any object is a string of one to eight letters from a to z."""
    if not isinstance(thing, str) or not 1 <= len(thing) <= MOST_LETTERS:
        return False
    return all(["a" <= letter <= "z" for letter in thing])


def is_integer(thing):
    """Tell whether any object is an integer, which True and False are not."""
    return isinstance(thing, int) and not isinstance(thing, bool)


def is_list(thing):
    """Tell whether any object is a list, or a tuple, which means the same."""
    return isinstance(thing, (list, tuple))
