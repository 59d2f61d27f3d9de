"""The house: runs under names, kept by their histories alone, with one edition that they all go on with."""

from openruns.arguments import check_program
from openruns.errors import Breaks, InvalidArgument, LimitExceeded, NoRun, Taken
from openruns.moments import may_come
from openruns.programs import Program
from openruns.reading import Reader, cut
from openruns.tenants import MOST_WAITING, Tenant, begun_tenant, is_over, may_wait, read_tenant, told_tenant
from openruns.words import are_notes, is_integer, is_word


class House:
    """Runs under names, and the edition that they use.

    program_used is the edition, and tenants has the run of each name. A run that
    changes is another object in another dict, so what was kept does not change.
    """

    def __init__(self, program):
        check_program(program, "program")
        self.program_used = program
        self.tenants = {}

    @property
    def edition(self):
        """The program that the runs use."""
        return self.program_used

    @edition.setter
    def edition(self, value):
        check_program(value, "edition")
        self.use(value)

    def deploy(self, program):
        """Set the edition, and return the runs that stand still then, with their causes."""
        check_program(program, "program")
        self.use(program)
        return self.still()

    def begin(self, name, word, notes=()):
        """Begin a run and return the list of the commands of its first turn."""
        if not is_word(name):
            raise InvalidArgument("name")
        if name in self.tenants:
            raise Taken(name)
        return self.begin_afresh(name, word, notes, [])

    def __setitem__(self, at, worth):
        self.begin(at, worth)

    def tell(self, name, token, notes=()):
        """Do a live turn and return the list of its commands, or None if the token went into the tail."""
        tenant = self.tenant_of(name)
        if tenant.cause is not None:
            return self.tell_still(name, token, notes)
        if is_over(tenant) or not may_come(self.program_used, tenant.moment, token):
            raise InvalidArgument("token")
        if not are_notes(notes):
            raise InvalidArgument("notes")
        after = told_tenant(self.program_used, tenant, token, tuple(notes))
        self.put_in(name, after)
        return None if after.cause is not None else after.tokens[len(tenant.tokens) + 1:]

    def __getitem__(self, at):
        return list(self.tenant_of(at).tokens)

    def __iter__(self):
        raise TypeError("a house is not iterated over")

    def past(self, name):
        """Return the past histories of a run, first ones first."""
        return [list(history) for history in self.tenant_of(name).former]

    def tail(self, name):
        """Return the tokens that wait for a run that stands still, each with its notes."""
        return list(self.tenant_of(name).waiting)

    def __contains__(self, x):
        return isinstance(x, str) and x in self.tenants

    def __len__(self):
        return len(self.tenants)

    def names(self):
        """Return the names of the runs, ascending."""
        return sorted(self.tenants)

    def still(self):
        """Return the names of the runs that stand still, ascending, each with its cause."""
        causes = [(name, self.tenants[name].cause) for name in sorted(self.tenants)]
        return [(name, cause) for name, cause in causes if cause is not None]

    def again(self, name, notes=()):
        """Begin a run afresh that ended to be begun anew, and return the list of the commands of its first turn."""
        tenant = self.tenant_of(name)
        kind, word = tenant.tokens[-1][0], tenant.tokens[-1][-1]
        if kind != "anew":
            raise InvalidArgument("name")
        return self.begin_afresh(name, word, notes, tenant.former + [tenant.tokens])

    def rewind(self, name, turns):
        """Cut the history of a run behind a number of turns, and return the list of the tokens cut off."""
        tenant = self.tenant_of(name)
        told = cut(tenant.tokens)
        if not is_integer(turns) or not 1 <= turns <= len(told):
            raise InvalidArgument("turns")
        left = [token for turn in told[:turns] for token in turn]
        reader = Reader(self.program_used)
        reader.read_turns(told[:turns])
        if reader.breach is not None:
            at, word = reader.breach
            raise Breaks(at, word)
        self.put_in(name, Tenant(left, [], tenant.former, reader.moment, None))
        return tenant.tokens[len(left):]

    def take_out(self, name):
        """Take a run out of the house and return its history."""
        tenant = self.tenant_of(name)
        self.tenants = {other: self.tenants[other] for other in self.tenants if other != name}
        return list(tenant.tokens)

    def trial(self, program):
        """Return a block in which the house uses a program, and behind which it is as it was."""
        check_program(program, "program")
        return Trial(self, program)

    def outlook(self, program, deeds=()):
        """Return the runs that would stand still if a program were used and some tokens were told then."""
        check_program(program, "program")
        if not are_deeds(deeds):
            raise InvalidArgument("deeds")
        with self.trial(program):
            for name, token, notes in deeds:
                self.tell(name, token, notes)
            return self.still()

    def tenant_of(self, name):
        """Return the run of a name, which may be any value."""
        if name not in self:
            raise NoRun(name)
        return self.tenants[name]

    def put_in(self, name, tenant):
        """Let a run be another one from now on."""
        self.tenants = {**self.tenants, name: tenant}

    def use(self, program):
        """Let all runs use a program."""
        self.tenants = {name: read_tenant(program, self.tenants[name]) for name in self.tenants}
        self.program_used = program

    def begin_afresh(self, name, word, notes, former):
        """Begin a run that has some past histories, and return the list of the commands of its first turn."""
        if word not in self.program_used.input_words:
            raise InvalidArgument("word")
        if not are_notes(notes):
            raise InvalidArgument("notes")
        tenant = begun_tenant(self.program_used, word, notes, former)
        self.put_in(name, tenant)
        return tenant.tokens[1:]

    def tell_still(self, name, token, notes):
        """Put a token into the tail of a run that stands still."""
        tenant = self.tenants[name]
        if not may_wait(tenant, token):
            raise InvalidArgument("token")
        if not are_notes(notes):
            raise InvalidArgument("notes")
        if len(tenant.waiting) == MOST_WAITING:
            raise LimitExceeded(MOST_WAITING)
        waiting = tenant.waiting + [(token, tuple(notes))]
        self.put_in(name, Tenant(tenant.tokens, waiting, tenant.former, tenant.moment, tenant.cause))


class Trial:
    """A block in which a house uses a program. still_then has the runs that stand still at its beginning."""

    def __init__(self, house, program):
        self.house = house
        self.program_tried = program
        self.still_then = []
        self.program_kept = None
        self.tenants_kept = None

    def __enter__(self):
        self.program_kept = self.house.program_used
        self.tenants_kept = self.house.tenants
        self.still_then = self.house.deploy(self.program_tried)
        return self

    def __exit__(self, kind, value, trace):
        self.house.program_used = self.program_kept
        self.house.tenants = self.tenants_kept


def are_deeds(value):
    """Tell whether any value is a list or tuple of tuples of a name, a token and notes."""
    if not isinstance(value, (list, tuple)):
        return False
    return all([isinstance(deed, tuple) and len(deed) == 3 for deed in value])
