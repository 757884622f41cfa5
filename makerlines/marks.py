"""What a call does to one word in one field.

The contents of a field are numbers here: 1 with THE word, 0 without it, and for a field of
sort "one" 2 with another word. A mark is the content that deeds leave, or None if they leave
it as it was.
"""

NO_WORD = 0
THE_WORD = 1
ANOTHER = 2
WORDS = ("", "x", "y", "z")


class Act:
    """A call, with the word, with another word or with none, as it is in one field.

    `very` is what the call leaves of the very list that was held, `held` of what is held in the
    end by the maker that is changed or made: another list if `is_apart`.
    """

    def __init__(self, call, field, word):
        name, hand, moves, deeds, same = call
        self.name = name
        self.hand = hand
        self.moves = moves
        self.word = word
        self.shares = field in same
        self.fresh = ("fresh", field) in deeds
        self.very, self.held = marks_of(deeds, field, word)
        self.is_apart = self.fresh
        if hand == "new" and not self.shares:
            self.very = None
            self.is_apart = True


def marks_of(deeds, field, word):
    """Return the mark of these deeds for the very list of a field, and that for what is held then."""
    very = held = None
    is_very = True
    for deed, name in deeds:
        if name != field:
            continue
        if deed == "fresh":
            is_very = False
        mark = mark_of(deed, word)
        if mark is not None:
            held = mark
            very = mark if is_very else very
    return very, held


def mark_of(deed, word):
    """Return the mark of one deed."""
    if deed == "clear":
        return 0
    if deed == "set":
        return word
    if deed == "add" and word == THE_WORD:
        return 1
    if deed == "strike" and word == THE_WORD:
        return 0
    return None


def marked(content, mark):
    """Return what deeds with this mark leave of a content."""
    return content if mark is None else mark


def acts_in(kind, field, words=(THE_WORD, ANOTHER)):
    """Return the acts of all calls of a kind in a field, those with no effect of their word once."""
    return [pair[0] for pair in act_pairs_in(kind, kind, field, words)]


def act_pairs_in(one, other, field, words=(THE_WORD, ANOTHER)):
    """Return the acts of all calls of two kinds with the same names, as pairs.

    Whether a call takes a word is asked of the first kind.
    """
    pairs = []
    for call in one.steps:
        known = []
        for word in words if one.takes(call[0]) else (NO_WORD,):
            pair = (Act(call, field, word), Act(other.table[call[0]], field, word))
            told = [(act.very, act.held) for act in pair]
            if told not in known:
                known.append(told)
                pairs.append(pair)
    return pairs


def touched(act, content):
    """Return what an act on the maker of a list does, in a field of either sort.

    The three are: the content of this very list behind it; whether the maker that has been
    changed or made still holds it; and the content of what that maker holds.
    """
    return marked(content, act.very), not act.is_apart, marked(content, act.held)
