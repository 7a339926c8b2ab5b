"""The desk: it is told rows of words, and answers each with a text [37]."""

from seekpress.container import container
from seekpress.errors import NoRow
from seekpress.makes import Makes
from seekpress.notes import NONE, is_number, read_marks, show_marks
from seekpress.rescue import rescued
from seekpress.rule import Rule

MOST_FIGURES = 9


def show_deed(told):
    both = [show_marks(told[0]), show_marks(told[1])]
    return " / ".join(both)


def say_new(makes, given):
    return show_deed(makes.new(given[0], given[1]))


def say_put(makes, given):
    return show_deed(makes.put(given[0], given[1], given[2]))


def say_change(makes, given):
    return show_deed(makes.change(given[0], given[1], given[2], given[3]))


def say_take(makes, given):
    return show_deed(makes.take(given[0], given[1], given[2]))


def say_pour(makes, given):
    return show_deed(makes.pour(given[0], given[1], given[2]))


def say_part(makes, given):
    return show_deed(makes.part(given[0], given[1], given[2], given[3]))


def say_twin(makes, given):
    return show_deed(makes.twin(given[0], given[1]))


def say_drop(makes, given):
    makes.drop(given[0])
    return "ok"


def say_text(makes, given):
    return show_marks(makes.text(given[0]))


def say_stretch(makes, given):
    return show_marks(makes.stretch(given[0], given[1], given[2]))


def say_long(makes, given):
    return str(makes.long(given[0]))


def say_names(makes, given):
    names = makes.names()
    return " ".join(names) if names else NONE


def say_blocks(makes, given):
    return show_marks(makes.blocks(given[0]))


def say_container(makes, given):
    return show_marks(container(makes, given[0]))


def show_piece(begin, marks):
    shown = show_marks(marks)
    return f"{begin}: {shown}"


def show_lost(begin, end):
    shown = "-" if end is None else str(end)
    return f"lost {begin} {shown}"


def say_rescue(makes, given):
    told = rescued(given[0])
    shown = [NONE if told[0] is None else str(told[0])]
    shown.extend([show_piece(begin, marks) for begin, marks in told[1]])
    shown.extend([show_lost(begin, end) for begin, end in told[2]])
    return " / ".join(shown)


# What stands behind the first word, and what answers; MARKS, always the last, are all words that follow.
ROWS = {
    "new": (("NAME", "MARKS"), say_new),
    "put": (("NAME", "NUMBER", "MARKS"), say_put),
    "change": (("NAME", "NUMBER", "NUMBER", "MARKS"), say_change),
    "take": (("NAME", "NUMBER", "NUMBER"), say_take),
    "pour": (("NAME", "NAME", "NAME"), say_pour),
    "part": (("NAME", "NUMBER", "NAME", "NAME"), say_part),
    "twin": (("NAME", "NAME"), say_twin),
    "drop": (("NAME",), say_drop),
    "text": (("NAME",), say_text),
    "stretch": (("NAME", "NUMBER", "NUMBER"), say_stretch),
    "long": (("NAME",), say_long),
    "names": ((), say_names),
    "blocks": (("NAME",), say_blocks),
    "container": (("NAME",), say_container),
    "rescue": (("MARKS",), say_rescue),
}


def has_room(words, form):
    if "MARKS" in form:
        return len(words) >= len(form)
    return len(words) == len(form)


def read_word(word, kind):
    if kind == "NAME":
        return word
    if not is_number(word, MOST_FIGURES):
        raise NoRow("a word is no number where one is due")
    return int(word)


def read_words(words, form):
    # The marks behind all else: what is wrong with the row itself is refused ahead of them.
    given = [read_word(word, kind) for word, kind in zip(words, form) if kind != "MARKS"]
    if "MARKS" in form:
        given.append(read_marks(" ".join(words[len(form) - 1:])))
    return given


class Desk:
    def __init__(self):
        self.makes = Makes(Rule(4, 3, 12, 4))

    def say(self, row):
        words = row.split(" ")
        if words[0] not in ROWS or "" in words:
            raise NoRow("no row begins so, or a word is empty")
        form = ROWS[words[0]][0]
        if not has_room(words[1:], form):
            raise NoRow("the row has too few or too many words")
        answer = ROWS[words[0]][1]
        return answer(self.makes, read_words(words[1:], form))
