"""Reads the words of a text into the parts of a program, and refuses the first word that cannot stand."""

from undoneall.errors import BadText
from undoneall.names import WORD_SIGNS, is_name

# The { by which one more than these would be open cannot stand.
MOST_OPEN = 39


def split_words(text):
    """The pairs of a word and its place, in order, and at last an empty word at the text's end.

    A sign that begins no word comes as a word of its own: it can stand nowhere, so the reader refuses it.
    """
    words = []
    at = 0
    while at < len(text):
        start = at
        at += 1
        if text[start] in WORD_SIGNS:
            while at < len(text) and text[at] in WORD_SIGNS:
                at += 1
        if text[start] not in " \n":
            words.append((text[start:at], start))
    words.append(("", len(text)))
    return words


class Reader:
    """The words of a text, which of them is looked at, and how many { are open there."""

    def __init__(self, text):
        self.words = split_words(text)
        self.at = 0
        self.depth = 0

    def word(self):
        """The word that is looked at, empty behind the last one."""
        return self.words[self.at][0]

    def refuse(self):
        """Raise the error for the word that is looked at."""
        raise BadText(self.words[self.at][1])

    def take(self, wanted):
        """Pass a word, which has to be the wanted one."""
        if self.word() != wanted:
            self.refuse()
        self.at += 1

    def take_name(self):
        """Pass a name and return it."""
        name = self.word()
        if not is_name(name):
            self.refuse()
        self.at += 1
        return name

    def whole(self):
        """Pass all words and return the pair of letters and procedures."""
        self.take("letters")
        letters = [self.take_name()]
        while self.word() != ";":
            letters.append(self.take_name())
        self.take(";")
        procedures = [self.procedure()]
        while self.word() != "":
            procedures.append(self.procedure())
        return (tuple(letters), tuple(procedures))

    def procedure(self):
        """Pass a procedure and return the pair of its name and its body."""
        self.take("proc")
        name = self.take_name()
        return (name, self.body())

    def body(self):
        """Pass a { and its }, with the statements between them, and return these."""
        if self.depth == MOST_OPEN:
            self.refuse()
        self.take("{")
        self.depth += 1
        statements = []
        while self.word() != "}":
            statements.append(self.statement())
        self.take("}")
        self.depth -= 1
        return tuple(statements)

    def statement(self):
        """Pass a statement and return it."""
        word = self.word()
        if word in ("do", "undo", "call", "return"):
            return self.plain(word)
        if word == "choose":
            return self.choice()
        if word == "loop":
            self.take("loop")
            return ("loop", self.body())
        self.take("ensure")
        body = self.body()
        self.take("finally")
        return ("ensure", body, self.body())

    def plain(self, word):
        """Pass a statement without bodies, which the word begins, and return it."""
        self.take(word)
        named = () if word == "return" else (self.take_name(),)
        self.take(";")
        return (word, *named)

    def choice(self):
        """Pass a choose of two bodies or more and return it."""
        self.take("choose")
        bodies = [self.body()]
        self.take("or")
        bodies.append(self.body())
        while self.word() == "or":
            self.take("or")
            bodies.append(self.body())
        return ("choose", tuple(bodies))
