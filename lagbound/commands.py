"""The commands of a book: reading them word by word, and carrying them out.

An item is a Machine, a Reader, Rules, a Session, or a paper: a pair of a machine and its fate. No item is changed
after it was filed.
"""

from lagbound.alike import reader_parting
from lagbound.behind import behind
from lagbound.errors import (BadCommand, BadEntry, BadLine, Closed, Growing, Mismatch, NameTaken, NameUnknown, NoMove,
                             NotFinal, TooLarge, TwoWords)
from lagbound.least import least
from lagbound.limits import MAX_READ
from lagbound.machines import Machine
from lagbound.machinetext import read_machine, show_machine
from lagbound.readers import Reader
from lagbound.readertext import read_reader, show_reader
from lagbound.rests import build, fate, is_fate
from lagbound.rules import Rules, rewrite, rule_reader
from lagbound.session import Session
from lagbound.shaping import trim, turn, unite
from lagbound.telling import told_words
from lagbound.words import is_letters, is_name, show_word, shown_word

MOST_TOLD = 5

# What stands behind each command word: a new name, the kinds of items that may stand there, or something else that
# is told below. What is called a text or pairs takes all that is left of the line.
FORMS = {
    "machine": ("new", "machine text"),
    "reader": ("new", "reader text"),
    "rules": ("new", "alphabet", "pairs"),
    "trim": ("new", "machine"),
    "turn": ("new", "machine"),
    "unite": ("new", "machine", "machine"),
    "behind": ("new", "machine", "machine"),
    "build": ("new", "machine"),
    "least": ("new", "reader"),
    "rewriter": ("new", "rules"),
    "paper": ("new", "machine"),
    "judge": ("paper", "machine"),
    "tell": ("machine reader rules", "word"),
    "part": ("reader", "reader"),
    "open": ("new", "reader"),
    "push": ("session", "letter"),
    "close": ("session",),
    "drop": ("machine reader rules session paper",),
}
ALL_THE_REST = ("machine text", "reader text", "pairs")


def kind_of(item):
    """The kind of the item."""
    if isinstance(item, Machine):
        return "machine"
    if isinstance(item, Reader):
        return "reader"
    if isinstance(item, Rules):
        return "rules"
    return "session" if isinstance(item, Session) else "paper"


def show_item(item):
    """The text of the item."""
    kind = kind_of(item)
    if kind == "machine":
        return show_machine(item)
    if kind == "reader":
        return show_reader(item)
    if kind == "rules":
        words = [show_word(word) for pair in item.pairs for word in pair]
        return " ".join(["rules", item.letters] + words)
    if kind == "session":
        closed = " closed" if item.closed else ""
        return f"session {item.state} {show_word(item.taken)} {show_word(item.written)}{closed}"
    return f"{item[1][0]}\n{show_machine(item[0])}"


def read_command(line, filed):
    """The command word of the line and the values of the words behind it, if no place of it is wrong."""
    if not isinstance(line, str) or "\n" in line:
        raise BadCommand(1)
    words = line.split(" ")
    if words[0] not in FORMS:
        raise BadCommand(1)
    return words[0], read_values(words, filed)


def read_values(words, filed):
    """The values of the words behind the command word."""
    values = []
    for place, form in enumerate(FORMS[words[0]], start=2):
        if form in ALL_THE_REST:
            return values + [read_rest(form, place, words[place - 1:], values)]
        if place > len(words):
            raise BadCommand(place)
        values.append(read_word(form, place, words[place - 1], values, filed))
    if len(words) > len(values) + 1:
        raise BadCommand(len(values) + 2)
    return values


def read_word(form, place, word, values, filed):
    """The value of one word, which may be about the item that was named before it."""
    if form == "new":
        value = read_new(word, filed)
    elif form == "alphabet":
        value = word if is_letters(word) else None
    elif form == "word":
        value = shown_word(alphabet_of(values[0]), word, MAX_READ)
    elif form == "letter":
        value = word if values[0].reads(word) else None
    else:
        value = read_item(form, word, filed)
    if value is None:
        raise BadCommand(place)
    return value


def read_new(word, filed):
    """The word, if it is a name that no item has; None if it is no name."""
    if word in filed:
        raise NameTaken(word)
    return word if is_name(word) else None


def read_item(kinds, word, filed):
    """The item that has the word as its name; None if it is of another kind."""
    if word not in filed:
        raise NameUnknown(word)
    item = filed[word]
    return item if kind_of(item) in kinds.split(" ") else None


def alphabet_of(item):
    """The alphabet of the words that a machine, a reader or rules read."""
    return item.letters if isinstance(item, Rules) else item.read


def read_rest(form, place, words, values):
    """The item of all words that are left of the line."""
    text = " ".join(words).replace(" ; ", "\n")
    try:
        if form == "machine text":
            return read_machine("machine " + text)
        if form == "reader text":
            return read_reader("reader " + text)
        return Rules(values[1], read_pairs(values[1], words))
    except (BadLine, BadEntry):
        raise BadCommand(place) from None


def read_pairs(letters, words):
    """The pairs of words whose shown forms follow each other; None stands where there is none."""
    shown = [shown_word(letters, word, MAX_READ) for word in words]
    lefts = shown[::2]
    rights = shown[1::2] + [None] * (len(shown) % 2)
    return list(zip(lefts, rights))


def carried_out(command, name, values):
    """The answer to a command, and what it files: None, or a pair of a name and its new item or None."""
    try:
        if command in MAKERS:
            maker = MAKERS[command]
            item = maker(values)
            return answer_for(item), (name, item)
        action = ACTIONS[command]
        return action(name, values)
    except TwoWords:
        return refused("TwoWords")
    except Growing:
        return refused("Growing")
    except Mismatch:
        return refused("Mismatch")
    except TooLarge:
        return refused("TooLarge")
    except NoMove:
        return refused("NoMove")
    except NotFinal:
        return refused("NotFinal")
    except Closed:
        return refused("Closed")


def refused(error):
    """The answer to a command that met the error."""
    return f"refused {error}", None


def answer_for(item):
    """The answer to a command that files the item."""
    kind = kind_of(item)
    if kind == "paper":
        return item[1][0]
    if kind == "session":
        return f"session {show_word(item.written)}"
    return f"{kind} {len(item)}"


def make_told(values):
    """The item that the line itself tells."""
    return values[-1]


def make_trim(values):
    """The trimmed machine."""
    return trim(values[1])


def make_turn(values):
    """The turned machine."""
    return turn(values[1])


def make_unite(values):
    """The machine with all courses of two."""
    return unite(values[1], values[2])


def make_behind(values):
    """The machine that runs the second behind the first."""
    return behind(values[1], values[2])


def make_build(values):
    """The reader of a machine."""
    return build(values[1])


def make_least(values):
    """The least form of a reader."""
    return least(values[1])


def make_rewriter(values):
    """The rule reader of rules."""
    return rule_reader(values[1])


def make_paper(values):
    """The machine with its fate."""
    return values[1], fate(values[1])


def make_open(values):
    """A session of a reader at its start."""
    return Session(values[1])


def judge_paper(_, values):
    """What the judge of fates says."""
    paper, machine = values
    return "right" if is_fate(machine, paper[1]) else "wrong", None


def tell_word(_, values):
    """The told words in their shown forms."""
    item, word = values
    if isinstance(item, Rules):
        return show_word(rewrite(item, word)), None
    if isinstance(item, Reader):
        return show_answer(item.tell(word)), None
    words, more = told_words(item, word, most=MOST_TOLD)
    shown = [show_word(told) for told in words] + (["+"] if more else [])
    return " ".join(shown) if shown else "*", None


def show_answer(word):
    """The shown form of a word, or the sign for None."""
    return "*" if word is None else show_word(word)


def part_readers(_, values):
    """The parting paper of two readers in shown forms."""
    paper = reader_parting(values[0], values[1])
    if paper is None:
        return "alike", None
    return f"{show_word(paper[0])} {show_answer(paper[1])} {show_answer(paper[2])}", None


def push_letter(name, values):
    """What the push writes, and the session behind it."""
    session = values[0].twin()
    return show_word(session.push(values[1])), (name, session)


def close_session(name, values):
    """What the close writes, and the session behind it."""
    session = values[0].twin()
    return show_word(session.close()), (name, session)


def drop_item(name, _):
    """The answer to a removal, and the name that has no item behind it."""
    return "dropped", (name, None)


MAKERS = {
    "machine": make_told,
    "reader": make_told,
    "rules": make_told,
    "trim": make_trim,
    "turn": make_turn,
    "unite": make_unite,
    "behind": make_behind,
    "build": make_build,
    "least": make_least,
    "rewriter": make_rewriter,
    "paper": make_paper,
    "open": make_open,
}
ACTIONS = {
    "judge": judge_paper,
    "tell": tell_word,
    "part": part_readers,
    "push": push_letter,
    "close": close_session,
    "drop": drop_item,
}
