"""The assembler: a module's text of rows is made into an object."""

from gatetown.codes import NAMES, word_of
from gatetown.errors import BadRow, TooLong
from gatetown.machine import PLACES, WORDS
from gatetown.written import FIGURES, LETTERS, are_of, number_written

MOST_WORDS = 4095
MOST_NAME = 12

# The kinds of rows. A form is a tuple of its kind and of what the row tells.
GIVE = "give"
NEED = "need"
LABEL = "label"
SPACE = "space"
WORD = "word"


def is_row_name(text):
    return 1 <= len(text) <= MOST_NAME and text[0] in LETTERS and are_of(text, LETTERS + FIGURES)


def told_by(arg, most):
    # A tuple (name, number), the name None where a number alone is told; None where it is no ARG.
    number = number_written(arg, most)
    if number is not None:
        return (None, number)
    parted = arg.partition("+")
    if not is_row_name(parted[0]):
        return None
    if parted[1] == "":
        return (arg, 0)
    number = number_written(parted[2], PLACES - 1)
    return None if number is None else (parted[0], number)


def word_form(op, arg):
    # Behind word a number may have all of a word's figures, behind an op those of a place.
    told = told_by(arg, WORDS - 1 if op == WORD else PLACES - 1)
    if told is None:
        return None
    first = 0 if op == WORD else word_of(op, 0)
    return (WORD, first, told[0], told[1])


def form_of(row):
    words = row.split(" ")
    if len(words) == 1 and row.endswith(":") and is_row_name(row[:-1]):
        return (LABEL, row[:-1])
    if len(words) != 2:
        return None
    if words[0] in (GIVE, NEED):
        return (words[0], words[1]) if is_row_name(words[1]) else None
    if words[0] == SPACE:
        count = number_written(words[1], MOST_WORDS)
        return None if count is None else (SPACE, count)
    if words[0] == WORD or words[0] in NAMES:
        return word_form(words[0], words[1])
    return None


def head_of(forms):
    # The gives and needs that stand ahead of all other rows.
    head = []
    for form in forms:
        if form is None or form[0] not in (GIVE, NEED):
            return head
        head.append(form)
    return head


def names_of(forms, kind):
    names = {}
    for form in forms:
        if form is not None and form[0] == kind:
            names[form[1]] = True
    return names


def first_fault(forms):
    head = head_of(forms)
    labels = names_of(forms, LABEL)
    # A need behind other rows needs nothing, so it excuses no row that uses its name.
    needs = names_of(head, NEED)
    ahead = {}
    for row, form in enumerate(forms):
        if form is None:
            return row
        if form[0] in (GIVE, NEED) and row >= len(head):
            return row
        if form[0] in (GIVE, NEED, LABEL) and form in ahead:
            return row
        if form[0] == GIVE and form[1] not in labels:
            return row
        if form[0] == LABEL and form[1] in needs:
            return row
        if form[0] == WORD and form[2] is not None and form[2] not in labels and form[2] not in needs:
            return row
        ahead[form] = True
    return None


def size_of(form):
    if form[0] == SPACE:
        return form[1]
    return 1 if form[0] == WORD else 0


def places_of(forms):
    # One more than there are rows: the last one is the place behind all words.
    places = [0]
    for form in forms:
        places.append(places[-1] + size_of(form))
    return places


def label_places(forms, places):
    labels = {}
    for form, place in zip(forms, places):
        if form[0] == LABEL:
            labels[form[1]] = place
    return labels


def words_by(forms, labels):
    words = []
    for form in forms:
        if form[0] == SPACE:
            words.extend([0] * form[1])
        elif form[0] == WORD and form[2] in labels:
            words.append(form[1] + (labels[form[2]] + form[3]) % PLACES)
        elif form[0] == WORD:
            words.append(form[1] + form[3])
    return words


def assembled(text):
    rows = [] if text == "" else text.split("\n")
    forms = [form_of(row) for row in rows]
    fault = first_fault(forms)
    if fault is not None:
        raise BadRow(fault)
    places = places_of(forms)
    if places.pop() > MOST_WORDS:
        raise TooLong()
    labels = label_places(forms, places)
    own = []
    needed = []
    given = {}
    for form, place in zip(forms, places):
        if form[0] == GIVE:
            given[form[1]] = labels[form[1]]
        elif form[0] == WORD and form[2] in labels:
            own.append(place)
        elif form[0] == WORD and form[2] is not None:
            needed.append((place, form[2]))
    return (words_by(forms, labels), own, needed, given, places)
