"""The desk: rules kept by name, the lines that change them, and the lines that ask of them."""

from shutpairs.beside import Beside, first_unlike
from shutpairs.counts import count_of
from shutpairs.errors import NoLine, NoName, NoPlace, NoRule, NoText, NothingLeft
from shutpairs.lists import kept_of
from shutpairs.rules import MOST_HEAPS, first_in
from shutpairs.texts import heap_text, read_heap, read_rule, rule_text, writes_number
from shutpairs.walks import end_of, whole_walk

LETTERS = "abcdefghijklmnopqrstuvwxyz"
MOST_LETTERS = 8
MOST_FIGURES = 9

# What stands behind each line's first word; a NAME has to stand for a rule, a FREE one need not.
FORMS = {
    "rule": ("FREE", "RULE"),
    "add": ("NAME", "HEAP"),
    "take": ("NAME", "NUMBER"),
    "copy": ("NAME", "FREE"),
    "drop": ("NAME",),
    "undo": (),
    "again": (),
    "names": (),
    "show": ("NAME",),
    "keeps": ("NAME", "HEAP"),
    "count": ("NAME", "NUMBER"),
    "list": ("NAME", "NUMBER"),
    "match": ("NAME", "NAME"),
    "send": ("NAME", "NAME", "HEAP"),
    "steps": ("NAME", "NAME", "HEAP"),
}


def read_name(piece):
    if len(piece) == 0 or len(piece) > MOST_LETTERS:
        raise NoText("a name has one to eight letters")
    if not all([sign in LETTERS for sign in piece]):
        raise NoText("a name has small letters alone")
    return piece


def read_number(piece):
    if piece == "0":
        return 0
    if len(piece) > MOST_FIGURES or not writes_number(piece):
        raise NoText("a number has one to nine figures, without a nought ahead")
    return int(piece)


def read_piece(kind, piece):
    if kind == "RULE":
        return read_rule(piece)
    if kind == "HEAP":
        return read_heap(piece)
    if kind == "NUMBER":
        return read_number(piece)
    return read_name(piece)


def read_line(line):
    word = line.split(" ")[0]
    if word not in FORMS:
        raise NoLine("the line begins with no word that is known")
    form = FORMS[word]
    # The last piece holds all that is left, blanks too, so a word that wants nothing is to be all of it.
    pieces = line.split(" ", len(form))
    if pieces[0] != word or len(pieces) <= len(form):
        raise NoLine("the line has too many words, or too few")
    try:
        return (word, [read_piece(kind, piece) for kind, piece in zip(form, pieces[1:])])
    except NoText:
        raise NoLine("a word of the line is not written as it has to be") from None


def refuse_nameless(standing, word, given):
    for kind, value in zip(FORMS[word], given):
        if kind == "NAME" and value not in standing:
            raise NoName(value)


def put_new(standing, given):
    return (given[0], given[1])


def put_added(standing, given):
    rule = standing[given[0]]
    if len(rule) >= MOST_HEAPS:
        raise NoRule("a rule has six heaps at most")
    return (given[0], rule + (given[1],))


def put_taken(standing, given):
    rule = standing[given[0]]
    number = given[1]
    if number >= len(rule):
        raise NoPlace("the rule has no heap of this number")
    return (given[0], rule[:number] + rule[number + 1:])


def put_copied(standing, given):
    return (given[1], standing[given[0]])


def tell_names(standing, given):
    if len(standing) == 0:
        return "no names"
    return " ".join(sorted(standing))


def tell_rule(standing, given):
    return rule_text(standing[given[0]])


def tell_keeps(standing, given):
    number = first_in(standing[given[0]], given[1])
    return "yes" if number is None else f"no {number}"


def tell_count(standing, given):
    return str(count_of(standing[given[0]], given[1]))


def tell_list(standing, given):
    heaps = kept_of(standing[given[0]], given[1])
    if len(heaps) == 0:
        return "no partings"
    return " | ".join([heap_text(heap) for heap in heaps])


def tell_match(standing, given):
    unlike = first_unlike(standing[given[0]], standing[given[1]])
    if unlike is None:
        return "yes"
    numbers = " ".join([str(number) for number in unlike[0]])
    one = unlike[1]
    other = unlike[2]
    return f"no {numbers} : {one} {other}"


def sided_of(standing, given):
    return Beside(standing[given[0]], standing[given[1]])


def tell_end(standing, given):
    return heap_text(end_of(sided_of(standing, given), given[2]))


def tell_steps(standing, given):
    return str(len(whole_walk(sided_of(standing, given), given[2])))


# Each tells, of what stands and what the line gave, the name and the rule it is to stand for.
PUTS = {"rule": put_new, "add": put_added, "take": put_taken, "copy": put_copied}

ASKS = {
    "names": tell_names,
    "show": tell_rule,
    "keeps": tell_keeps,
    "count": tell_count,
    "list": tell_list,
    "match": tell_match,
    "send": tell_end,
    "steps": tell_steps,
}


class Desk:
    def __init__(self):
        # What stands is never changed in its place: each deed makes another dict, so that undo has the old one.
        self.standing = {}
        self.past = []
        self.undone = []

    def do_deed(self, standing):
        self.past.append(self.standing)
        self.standing = standing
        self.undone = []

    def do_put(self, name, rule):
        standing = dict(self.standing)
        standing[name] = rule
        self.do_deed(standing)

    def do_drop(self, name):
        standing = dict(self.standing)
        standing.pop(name)
        self.do_deed(standing)

    def do_undo(self):
        if len(self.past) == 0:
            raise NothingLeft("nothing is left to be undone")
        self.undone.append(self.standing)
        self.standing = self.past.pop()

    def do_again(self):
        if len(self.undone) == 0:
            raise NothingLeft("nothing is left to be done again")
        self.past.append(self.standing)
        self.standing = self.undone.pop()

    def tell(self, line):
        said = read_line(line)
        word = said[0]
        given = said[1]
        refuse_nameless(self.standing, word, given)
        if word in ASKS:
            return ASKS[word](self.standing, given)
        if word in PUTS:
            named = PUTS[word](self.standing, given)
            self.do_put(named[0], named[1])
            return rule_text(named[1])
        if word == "drop":
            self.do_drop(given[0])
        elif word == "undo":
            self.do_undo()
        else:
            self.do_again()
        return tell_names(self.standing, given)
