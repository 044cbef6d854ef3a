"""Objects of all kinds, for tests of what functions say to things they do not take."""

from struckpieces.books import Book
from struckpieces.errors import BadBook, NoLog
from struckpieces.live import Live
from struckpieces.machines import Machine
from struckpieces.store import Store


def nested_tuple(depth, core=()):
    for _ in range(depth):
        core = (core,)
    return core


def nested_list(depth):
    thing = []
    for _ in range(depth):
        thing = [thing]
    return thing


def nested_dict(depth):
    thing = {}
    for _ in range(depth):
        thing = {"a": thing}
    return thing


def deep_things():
    """Things nested 40 deep."""
    return [
        nested_tuple(40),
        nested_tuple(40, "a"),
        nested_list(40),
        nested_dict(40),
        (nested_tuple(39), nested_list(39)),
        (nested_list(39), 0),
        (0, nested_dict(39)),
        [nested_tuple(39)] * 100,
    ]


def generated():
    yield "a"


def odd_things():
    """Things of many kinds that are no string, no tuple and no integer, or flags."""
    return [
        None, True, False, Ellipsis, NotImplemented,
        b"", b"a", bytearray(b"a"), memoryview(b"a"),
        [], ["a"], [0, 0], [(0, 0)], {}, {"a": 1}, {0: 0}, {(0, 0): True},
        {}.keys(), {"a": 1}.items(), range(2), slice(0, 1), iter([1]), zip("a", "a"), generated(),
        int, str, tuple, object, object(), len, deep_things, "a".startswith, lambda thing: thing,
        Book(("a",)), Book, Machine("a", ((0,),), (True,)), Machine, NoLog(), BadBook("pieces"), ValueError("a"), property(),
        Store(Book(("a",))), Store, Live(Book(("a",))), Live,
    ]


def huge_integers():
    return [10 ** 40 - 1, 1 - 10 ** 40]


def not_numbers():
    """What is no number, whatever the bound."""
    return odd_things() + deep_things() + ["", "0", "a", (), (0,), (0, 0), -1, huge_integers()[1]]


def not_logs():
    return odd_things() + deep_things() + [
        0, 1, -1, huge_integers()[0], (), ("a",), ("a", "b"), (0, 0),
        " ", "a ", " a", "a\n", "\n", "a\nb", "i", "ai", "A", "aB", "~", "a~b", "0", "`", "a" * 19999 + "i",
    ]


def not_tuples():
    return odd_things() + deep_things()[2:4] + deep_things()[7:] + [0, 1, huge_integers()[0], "", "a", "ab", "(0, 0)"]


def not_fractions():
    """What is no fraction."""
    return odd_things() + deep_things() + [
        0, 1, -1, "1", (), (1,), (1, 1, 1), (1, 0), (1, -1), (0, -1), (0, 0), (0, 2), (2, 4), (-3, 3), [1, 1],
        (True, 1), (1, True), (False, 1), ("1", "1"), (1, "1"), (1, None), (1, (1,)), ((1, 1), 1), (1, huge_integers()[1]),
    ]
