"""Tenants: the runs of a house, and what becomes of them by tokens and by editions."""

from openruns.errors import Falls, InvalidNote
from openruns.moments import running_things
from openruns.readers import fault_of
from openruns.reading import Reader, cut
from openruns.trails import LAST_WORDS, gone_over, has_form, is_outer
from openruns.turns import LivePen, turn_done

MOST_WAITING = 60


class Tenant:
    """A run of a house. It never changes, and its lists are not changed either.

    tokens is its history, waiting its tail, and former lists its past histories.
    moment is the one behind its history with the edition, if that reads it. cause
    is None, or why the run stands still.
    """

    def __init__(self, tokens, waiting, former, moment, cause):
        self.tokens = tokens
        self.waiting = waiting
        self.former = former
        self.moment = moment
        self.cause = cause


def is_over(tenant):
    """Tell whether a run is over."""
    return tenant.tokens[-1][0] in LAST_WORDS


def begun_tenant(program, word, notes, former):
    """Return a run that begins with an input."""
    token = ("begin", word)
    pen = LivePen(notes)
    moment = turn_done(program, None, token, pen).moment
    return Tenant([token] + pen.written, [], former, moment, None)


def told_tenant(program, tenant, token, notes):
    """Return a run that moves as it is behind a live turn; if the turn falls, it stands still."""
    pen = LivePen(notes)
    try:
        moment = turn_done(program, tenant.moment, token, pen).moment
    except Falls as fall:
        return Tenant(tenant.tokens, [(token, notes)], tenant.former, tenant.moment, ("falls", fall.word))
    return Tenant(tenant.tokens + [token] + pen.written, [], tenant.former, moment, None)


def may_wait(tenant, token):
    """Tell whether any value is a token that may come into the tail of a run that stands still."""
    if not has_form(token) or not is_outer(token) or token[0] == "begin":
        return False
    if token[0] == "signal":
        return True
    running = gone_over(tenant.tokens)[1]
    if token[1] not in running or running[token[1]] != ("ask" if token[0] == "answer" else "timer"):
        return False
    return all([told[0] == "signal" or told[1] != token[1] for told, notes in tenant.waiting])


def read_tenant(program, tenant):
    """Return a run as it is when a program becomes the edition."""
    if is_over(tenant):
        return tenant
    reader = Reader(program)
    reader.read_turns(cut(tenant.tokens))
    if reader.breach is not None:
        return Tenant(tenant.tokens, tenant.waiting, tenant.former, None, ("breaks",) + reader.breach)
    return worked_off(program, tenant, reader.moment)


def worked_off(program, tenant, moment):
    """Return a run that is at a moment as it is when its tail is worked off, as far as it can be."""
    tokens = list(tenant.tokens)
    at = moment
    waiting = list(tenant.waiting)
    cause = None
    while len(waiting) > 0 and cause is None:
        token, notes = waiting[0]
        if is_gone(at, token):
            waiting = waiting[1:]
            continue
        pen = LivePen(notes)
        cause, after = entry_done(program, at, token, pen)
        if cause is None:
            at = after
            tokens = tokens + [token] + pen.written
            waiting = [] if at.closing is not None else waiting[1:]
    return Tenant(tokens, waiting, tenant.former, at, cause)


def is_gone(moment, token):
    """Tell whether the thing that a token names was dropped."""
    return token[0] != "signal" and token[1] not in running_things(moment)


def entry_done(program, moment, token, pen):
    """Do a live turn; return None and the moment behind it, or why it cannot be done and None."""
    word = fault_of(program, moment, token)
    if word is not None:
        return (word,), None
    try:
        return None, turn_done(program, moment, token, pen).moment
    except Falls as fall:
        return ("falls", fall.word), None
    except InvalidNote as note:
        return ("note", note.at), None
