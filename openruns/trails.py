"""Trails: the forms of tokens, and what has been gone over of a history, token by token."""

from openruns.words import is_integer, is_word

# What the parts of a token behind its first one stand for.
OUTER_FORMS = {
    "begin": ("word",),
    "answer": ("number", "word"),
    "rang": ("number",),
    "signal": ("word", "word"),
}
COMMAND_FORMS = {
    "asked": ("word",),
    "set": (),
    "dropped": ("number",),
    "noted": ("word",),
    "marked": ("word",),
    "ended": ("word",),
    "anew": ("word",),
}

# The things that tokens start, and those of which one has to be open for a token that names it.
STARTED = {"asked": "ask", "set": "timer"}
NAMED = {"answer": ("ask",), "rang": ("timer",), "dropped": ("ask", "timer")}

LAST_WORDS = ("ended", "anew")


class Trail:
    """What has been gone over of a well-formed history.

    running holds an ask or a timer for the number of each open thing. things
    lists, ascending, the numbers of those that were open before the latest turn
    or were started in it, so the place of a number there is its age; lost lists
    those among them that are not open any more.
    """

    def __init__(self):
        self.length = 0
        self.started = 0
        self.running = {}
        self.things = []
        self.lost = []
        self.at_end = False

    def may_go_on(self, token):
        """Tell whether any value is a token that may stand next."""
        if self.at_end or not has_form(token):
            return False
        if (token[0] == "begin") != (self.length == 0):
            return False
        return token[0] not in NAMED or self.running.get(token[1]) in NAMED[token[0]]

    def go_on(self, token):
        """Go over a token that may stand next."""
        if is_outer(token):
            self.begin_turn()
        if token[0] in STARTED:
            self.running[self.started] = STARTED[token[0]]
            self.things.append(self.started)
            self.started += 1
        elif token[0] in NAMED:
            del self.running[token[1]]
            self.lost.append(token[1])
        self.length += 1
        self.at_end = token[0] in LAST_WORDS

    def begin_turn(self):
        """Let the ages of things be those of a new turn."""
        for number in self.lost:
            del self.things[place_in(self.things, number)]
        self.lost = []

    def by_age(self, token):
        """Return a token that was gone over in the latest turn with its thing numbered by age."""
        if token[0] not in NAMED:
            return token
        return (token[0], place_in(self.things, token[1])) + token[2:]

    def by_number(self, token):
        """Return a token by age as the history has it, or None if no thing has this age."""
        if token[0] not in NAMED:
            return token
        if token[1] >= len(self.things):
            return None
        return (token[0], self.things[token[1]]) + token[2:]


def is_outer(token):
    """Tell whether a token comes from outside."""
    return token[0] in OUTER_FORMS


def has_form(token):
    """Tell whether any value has one of the forms of a token."""
    if not isinstance(token, tuple) or len(token) == 0 or not isinstance(token[0], str):
        return False
    if token[0] in OUTER_FORMS:
        forms = OUTER_FORMS[token[0]]
    elif token[0] in COMMAND_FORMS:
        forms = COMMAND_FORMS[token[0]]
    else:
        return False
    if len(token) != 1 + len(forms):
        return False
    return all([fits(form, part) for form, part in zip(forms, token[1:])])


def fits(form, part):
    """Tell whether any value may be the part of a token that stands for this form."""
    if form == "number":
        return is_integer(part) and part >= 0
    return is_word(part)


def place_in(numbers, number):
    """Return the place of a number in an ascending list that contains it."""
    low = 0
    high = len(numbers) - 1
    while low < high:
        middle = (low + high) // 2
        if numbers[middle] < number:
            low = middle + 1
        else:
            high = middle
    return low
