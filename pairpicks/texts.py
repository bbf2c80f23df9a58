"""Books and offices as texts, and texts read as books and offices."""

from pairpicks.errors import BadOffice, BadOrder, BadText, PickError
from pairpicks.office import Office
from pairpicks.plans import LAST, MOST_PLANS, is_plan, need_book

FIGURES = "0123456789"


def pair_text(pair):
    """Return the word for a pair."""
    return f"{pair[0]}-{pair[1]}"


def plan_words(plan):
    """Return the list of the words for the pairs of a plan."""
    return [pair_text(pair) for pair in plan]


def number_words(numbers):
    """Return the list of the words for the numbers."""
    return [str(number) for number in numbers]


def number_in(words):
    """Return the number of at most two figures that one word alone is the text of; None if there is none."""
    if len(words) != 1 or not 1 <= len(words[0]) <= 2 or not all([sign in FIGURES for sign in words[0]]):
        return None
    number = int(words[0])
    return number if words == [str(number)] else None


def numbers_in(words):
    """Return the tuple of the numbers that the words are the texts of, with None for words that are of none."""
    return tuple([number_in([word]) for word in words])


def pair_in(words):
    """Return the tuple of two numbers that one word alone is the text of; None if there is none."""
    parts = words[0].split("-") if len(words) == 1 else []
    return numbers_in(parts) if len(parts) == 2 else None


def plan_in(words):
    """Return the tuple of the pairs that the words are the texts of, with None for words that are of none."""
    return tuple([pair_in([word]) for word in words])


def lines_of(text, first):
    """Return the lines behind the first one, which must be as told; raise BadText if it is not."""
    if not isinstance(text, str):
        raise BadText(None)
    lines = text.split("\n")
    if lines[0] != first:
        raise BadText(1)
    return lines[1:]


def book_text(book):
    """Return the text of the book."""
    need_book(book)
    return "\n".join(["book"] + [" ".join(["plan"] + plan_words(plan)) for plan in book])


def read_book(text):
    """Return the book whose text it is."""
    lines = lines_of(text, "book")
    plans = []
    for at, line in enumerate(lines):
        words = line.split(" ")
        plan = plan_in(words[1:])
        if at == MOST_PLANS or words[0] != "plan" or not is_plan(plan):
            raise BadText(at + 2)
        plans.append(plan)
    if plans == []:
        raise BadText(2)
    return tuple(plans)


def deed_text(deed):
    """Return the line for a deed of the log."""
    name = deed[0]
    if name in ("come", "change"):
        words = [str(deed[1])] + plan_words(deed[2])
    elif name == "put":
        words = [str(deed[1]), pair_text(deed[2])]
    elif name == "leave":
        words = [str(deed[1])]
    else:
        words = [word for numbers in deed[1:] for word in number_words(numbers)]
    return " ".join([name] + words)


def office_text(office):
    """Return the text of the office."""
    if not isinstance(office, Office):
        raise BadOffice("what is no office has no text")
    return "\n".join(["office"] + [deed_text(deed) for deed in office.log()])


def do_come(office, words):
    """Do the deed come that the words tell."""
    office.come(number_in(words[:1]), plan_in(words[1:]))


def do_leave(office, words):
    """Do the deed leave that the words tell."""
    office.leave(number_in(words))


def do_change(office, words):
    """Do the deed change that the words tell."""
    office.change(number_in(words[:1]), plan_in(words[1:]))


def do_put(office, words):
    """Do the deed put that the words tell."""
    office.put(number_in(words[:1]), pair_in(words[1:]))


def do_take_off(office, words):
    """Do the deed take_off that the words tell."""
    office.take_off(numbers_in(words))


def do_grow(office, words):
    """Do the deed grow that the words tell."""
    office.grow(numbers_in(words))


def do_grow_wide(office, words):
    """Do the deed grow_wide that the words tell."""
    office.grow_wide(numbers_in(words))


def do_settle(office, words):
    """Do the deed settle, which has no words."""
    if words:
        raise BadOrder("settle takes no words")
    office.settle()


def do_rename(office, words):
    """Do the deed rename that the words tell."""
    office.rename(numbers_in(words[:LAST + 1]), numbers_in(words[LAST + 1:]))


# What is no text of a number or of a pair becomes None, which the office refuses.
DEEDS = {
    "come": do_come, "leave": do_leave, "change": do_change, "put": do_put, "take_off": do_take_off, "grow": do_grow,
    "grow_wide": do_grow_wide, "settle": do_settle, "rename": do_rename,
}


def is_done(office, line):
    """Do the deed that the line tells, and tell whether this could be done."""
    words = line.split(" ")
    if words[0] not in DEEDS:
        return False
    deed = DEEDS[words[0]]
    try:
        deed(office, words[1:])
    except PickError:
        return False
    return True


def read_office(text):
    """Return the office whose text it is, with nothing to be done again."""
    lines = lines_of(text, "office")
    office = Office()
    for at, line in enumerate(lines):
        if not is_done(office, line):
            raise BadText(at + 2)
    return office
