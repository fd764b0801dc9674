"""What the tests hand in, and plain ways of reckoning the same by texts."""

import random
import sys

from lackstretch.errors import LackError

SIGNS = "0123456789abcdef"
BASES = range(2, 17)


class Touchy:
    """A thing that can't be compared, measured or taken for a truth."""

    def __eq__(self, other):
        raise RuntimeError("compared")

    __hash__ = None

    def __len__(self):
        raise RuntimeError("measured")

    def __bool__(self):
        raise RuntimeError("asked")


def anything():
    """New things of all kinds each time; some of them are bases, numbers, figures, rules or stands."""
    return [
        None, True, False, 0, 1, 2, 7, 10, 16, 17, -1, -2, -10 ** 30, 10 ** 25, -10 ** 400,
        "", " ", "0", "1", "10", "[1]", "None", "(10, [])",
        {}, {0: 1}, {1: [1]}, {"base": 10}, {10: []},
        [], [0], [1], [0, 0], [0, 1], [1, 0], [1, 3], [True], [False], [1, True], [True, 3], [None], ["1"],
        [-1], [16], [10 ** 30], [[]], [[1]], [[[[[1]]]]], [(1,)], [1, [1]], [{}],
        (), (0,), (1,), (1, 3), (10,), ((10, []),), (10, []), (10, [[1, 3], [7]]), (10, [], []), [10, []],
        (True, []), (10, ()), (10, None), (None, []), ("10", []), (10, ""), (10, {}), ([], 10), (1, []), (17, []),
        (10, [[]]), (10, [[True]]), (10, [[10]]), (10, [(1,)]), (10, [1]), (10, 1), (10, ["1"]), (10, [None]),
        (10, [[[1]]]), (-10, []), (10 ** 30, []), {(10,): []}, (10, [Touchy()]), (Touchy(), []), [Touchy()],
        (10, [[Touchy()]]), Touchy(), object(), range(3), {1}, frozenset(), b"1", bytearray(b"1"), len, ValueError,
    ]


def is_int(thing):
    return type(thing) is int


def answer(call, *handed):
    """What is told, or the class of the refusal; the kind too, as to Python True is 1."""
    try:
        told = call(*handed)
    except LackError as refusal:
        return type(refusal)
    return (type(told), told)


def calls_of(call, *handed):
    """How many calls, and returns of calls, an answer takes."""
    told = [0]

    def note(frame, event, what):
        told[0] += 1

    sys.setprofile(note)
    try:
        call(*handed)
    finally:
        sys.setprofile(None)
    return told[0]


def no_numbers():
    return [thing for thing in anything() if not (is_int(thing) and thing >= 0)]


def text_of(figures):
    return "".join(SIGNS[figure] for figure in figures)


def figures_in(text):
    return [SIGNS.index(sign) for sign in text]


def write(base, n):
    """The writing of n, by the greatest power first, as by hand."""
    power = 1
    while power * base <= n:
        power *= base
    text = ""
    while power:
        text += SIGNS[n // power]
        n %= power
        power //= base
    return text


def rule_by(base, *texts):
    return (base, sorted(figures_in(text) for text in texts))


def bad_texts(rule):
    return [text_of(stretch) for stretch in rule[1]]


def lacks(rule, text):
    return not any(bad in text for bad in bad_texts(rule))


def stand_text(rule, text):
    """The stand behind a text's figures, as a text, told from the document's words; or None."""
    if not lacks(rule, text):
        return None
    ends = [text[k:] for k in range(len(text) + 1)]
    return max([end for end in ends if end == "" or any(bad.startswith(end) for bad in bad_texts(rule))], key=len)


def texts_up_to(base, longest):
    """Every text of figures of none to so many signs."""
    told = [""]
    last = [""]
    for _ in range(longest):
        last = [text + sign for text in last for sign in SIGNS[:base]]
        told += last
    return told


def some_rules(how_many, bases=BASES, seed=1):
    """Rules of one to four stretches; narrow figures, so that stretches often stand within one another."""
    source = random.Random(seed)
    rules = []
    while len(rules) < how_many:
        base = source.choice(list(bases))
        narrow = [source.randrange(base) for _ in range(source.choice([1, 2, 2, 3]))]
        stretches = []
        for _ in range(source.randint(1, 4)):
            stretch = [source.choice(narrow) for _ in range(source.randint(1, 4))]
            if stretch not in stretches:
                stretches.append(stretch)
        rules.append((base, sorted(stretches)))
    return rules
