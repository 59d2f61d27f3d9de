"""What several tests use."""

from openruns.errors import OpenError
from openruns.programs import Program
from openruns.runs import Run

# Values of every kind of which the document says "any value".
ODD_VALUES = [
    None, True, False, 0, 1, -1, 10 ** 30, "", "a", "go", "A", "toolongword", b"", b"go", (), (1,), ("a",), [], ["a"],
    [1, [2]], {}, {"a": 1}, {(): []}, ([],), ({},), (("a", ("b",)),), OpenError("x"),
]


def deep(value, depth):
    """A value nested in tuples, lists and dicts."""
    for k in range(depth):
        value = [(value,), [value], {"a": value}][k % 3]
    return value


def all_odd_values():
    program = Program([])
    return ODD_VALUES + [deep(1, 100), deep("a", 99), program, Run(program, "go"), (program,), [program]]


class Raises:
    """A mixin: what a call raises, exactly, as the class and its attributes."""

    def assert_raises(self, error, attributes, call, *args, **named):
        with self.assertRaises(error) as caught:
            call(*args, **named)
        self.assertIs(type(caught.exception), error)
        told = {name: getattr(caught.exception, name) for name in attributes}
        self.assertEqual(told, attributes)
        for name in attributes:
            self.assertIs(type(told[name]), type(attributes[name]))
