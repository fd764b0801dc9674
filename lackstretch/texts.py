"""The writings of rules and numbers, and reading them back."""

from lackstretch.errors import NoFigures, NoText
from lackstretch.figures import check_rule, figures_of, is_rule, number_by

SIGNS = "0123456789abcdef"
TEN = 10


def text_by(figures):
    return "".join([SIGNS[figure] for figure in figures])


# What base the figures are of is left to the asker; None is of no base.
def figures_in(thing):
    if not isinstance(thing, str) or not all([sign in SIGNS for sign in thing]):
        return None
    return [SIGNS.index(sign) for sign in thing]


def show_number(base, n):
    return text_by(figures_of(base, n))


def read_number(base, text):
    try:
        return number_by(base, figures_in(text))
    except NoFigures:
        raise NoText("a number is written by figures of its base without 0 ahead of others") from None


def show_rule(rule):
    check_rule(rule)
    return " ".join([show_number(TEN, rule[0])] + [text_by(stretch) for stretch in rule[1]])


# Of a blank too many comes a word of no sign, which writes neither a base nor a stretch.
def read_rule(text):
    if not isinstance(text, str):
        raise NoText("a rule is written by a text")
    words = text.split(" ")
    rule = (read_number(TEN, words[0]), [figures_in(word) for word in words[1:]])
    if not is_rule(rule):
        raise NoText("a rule is written by its base and its stretches, rising, each behind a blank")
    return rule
