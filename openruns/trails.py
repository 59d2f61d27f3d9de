"""Trails: the forms of tokens, and histories that are gone over token by token."""

from openruns.words import is_integer, is_word

# What the parts of a token behind its first one stand for.
OUTER_FORMS = {
    "begin": ("word",),
    "answer": ("number", "word"),
    "rang": ("number",),
    "signal": ("word", "word"),
}
COMMAND_FORMS = {
    "asked": ("word",),
    "set": (),
    "dropped": ("number",),
    "noted": ("word",),
    "marked": ("word",),
    "ended": ("word",),
    "anew": ("word",),
}

# The things that tokens start, and those of which one has to be open for a token that names it.
STARTED = {"asked": "ask", "set": "timer"}
NAMED = {"answer": ("ask",), "rang": ("timer",), "dropped": ("ask", "timer")}

LAST_WORDS = ("ended", "anew")


def gone_over(tokens):
    """Go over a list of any values as over a history.

    Return the index of the first one that is no token that may stand there, or
    None, and a dict that tells for the number of each thing that is open ahead of
    it whether it is an ask or a timer.
    """
    running = {}
    started = 0
    at_end = False
    for at, token in enumerate(tokens):
        if at_end or not has_form(token) or (token[0] == "begin") != (at == 0):
            return at, running
        if token[0] in STARTED:
            running[started] = STARTED[token[0]]
            started += 1
        elif token[0] in NAMED:
            if running.get(token[1]) not in NAMED[token[0]]:
                return at, running
            del running[token[1]]
        at_end = token[0] in LAST_WORDS
    return None, running


def turns_in(tokens):
    """Return the turns of a history, each a list of tokens."""
    starts = [at for at, token in enumerate(tokens) if is_outer(token)]
    ends = starts[1:] + [len(tokens)]
    return [tokens[start:end] for start, end in zip(starts, ends)]


def renumbered(tokens, to_ages):
    """Return the tokens of a history with things numbered by age, or as the history does if they are by age.

    In the second case, the tokens may be any that have forms of tokens; None is
    returned if there is no thing of an age that they have.
    """
    told = []
    # The things that were open before the turn or were started in it, so that their places are their ages.
    things = []
    lost = {}
    started = 0
    for token in tokens:
        if is_outer(token):
            for number in sorted(lost):
                del things[place_in(things, number)]
            lost = {}
        if token[0] in STARTED:
            things.append(started)
            started += 1
        if token[0] not in NAMED:
            told.append(token)
            continue
        if not to_ages and token[1] >= len(things):
            return None
        number = token[1] if to_ages else things[token[1]]
        lost[number] = True
        told.append((token[0], place_in(things, number) if to_ages else number) + token[2:])
    return told


def is_outer(token):
    """Tell whether a token comes from outside."""
    return token[0] in OUTER_FORMS


def has_form(token):
    """Tell whether any value has one of the forms of a token."""
    if not isinstance(token, tuple) or len(token) == 0 or not isinstance(token[0], str):
        return False
    if token[0] in OUTER_FORMS:
        forms = OUTER_FORMS[token[0]]
    elif token[0] in COMMAND_FORMS:
        forms = COMMAND_FORMS[token[0]]
    else:
        return False
    if len(token) != 1 + len(forms):
        return False
    return all([fits(form, part) for form, part in zip(forms, token[1:])])


def fits(form, part):
    """Tell whether any value may be the part of a token that stands for this form."""
    if form == "number":
        return is_integer(part) and part >= 0
    return is_word(part)


def place_in(numbers, number):
    """Return the place of a number in an ascending list that contains it."""
    low = 0
    high = len(numbers) - 1
    while low < high:
        middle = (low + high) // 2
        if numbers[middle] < number:
            low = middle + 1
        else:
            high = middle
    return low
