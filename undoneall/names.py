"""The signs that words of texts are made of, and the names of letters and procedures."""

SMALL_LETTERS = "abcdefghijklmnopqrstuvwxyz"
WORD_SIGNS = "abcdefghijklmnopqrstuvwxyz0123456789"
KEPT_WORDS = (
    "call", "choose", "do", "ensure", "finally", "letters", "loop", "or", "proc", "return", "undo",
)
MOST_SIGNS = 10


def is_name(thing):
    """Whether thing is a name, by its form alone."""
    if not isinstance(thing, str) or not 1 <= len(thing) <= MOST_SIGNS:
        return False
    if thing[0] not in SMALL_LETTERS or thing in KEPT_WORDS:
        return False
    return all(sign in WORD_SIGNS for sign in thing)
