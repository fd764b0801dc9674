"""A Desk: rules by names, which rows of words bring, change, ask and take away."""

from lackstretch.errors import NoName, NoRow, NoStretch
from lackstretch.figures import is_good, is_stretch
from lackstretch.keeper import Keeper
from lackstretch.lengths import count_long, greatest_good, is_endless
from lackstretch.sums import sum_below
from lackstretch.texts import SIGNS, TEN, figures_in, read_number, read_rule, show_number, show_rule
from lackstretch.which import last_good, next_good

LETTERS = "abcdefghijklmnopqrstuvwxyz"
LONGEST_NAME = 8
LONGEST_WORD = 30
LONGEST_PLACE = 20
LONGEST_LENGTH = 2


def is_word_of(signs, longest, word):
    return 1 <= len(word) <= longest and all([sign in signs for sign in word])


def is_name(word):
    return is_word_of(LETTERS, LONGEST_NAME, word)


# What the figures are to the base is asked behind the name.
def is_word(word):
    return is_word_of(SIGNS, LONGEST_WORD, word)


def is_in_ten(longest, word):
    return is_word_of(SIGNS[:TEN], longest, word) and (word == "0" or word[0] != "0")


def is_place(word):
    return is_in_ten(LONGEST_PLACE, word)


def is_length(word):
    return is_in_ten(LONGEST_LENGTH, word)


def stretch_in(keeper, word):
    figures = figures_in(word)
    if not is_stretch(keeper.base, figures):
        raise NoStretch("a stretch is one to four figures of the base")
    return figures


def number_in(keeper, word):
    return read_number(keeper.base, word)


def in_ten(n):
    return show_number(TEN, n)


def in_base(keeper, n):
    if n is None:
        return "none"
    return show_number(keeper.base, n)


def say_come(keeper, word):
    keeper.come(stretch_in(keeper, word))
    return "ok"


def say_go(keeper, word):
    keeper.go(stretch_in(keeper, word))
    return "ok"


def say_good(keeper, word):
    return "yes" if is_good(keeper.rule(), number_in(keeper, word)) else "no"


def say_below(keeper, word):
    return in_ten(keeper.below(number_in(keeper, word)))


def say_nth(keeper, word):
    return in_base(keeper, keeper.good(read_number(TEN, word)))


def say_next(keeper, word):
    return in_base(keeper, next_good(keeper.rule(), number_in(keeper, word)))


def say_last(keeper, word):
    return in_base(keeper, last_good(keeper.rule(), number_in(keeper, word)))


def say_sum(keeper, word):
    return in_ten(sum_below(keeper.rule(), number_in(keeper, word)))


def say_long(keeper, word):
    return in_ten(count_long(keeper.rule(), read_number(TEN, word)))


def say_endless(keeper):
    if is_endless(keeper.rule()):
        return "yes"
    return in_base(keeper, greatest_good(keeper.rule()))


def say_show(keeper):
    return show_rule(keeper.rule())


# By a row's first word: what its third word is to be, and what the row is answered with.
WORD_ROWS = {
    "come": (is_word, say_come), "go": (is_word, say_go), "good": (is_word, say_good), "below": (is_word, say_below),
    "nth": (is_place, say_nth), "next": (is_word, say_next), "last": (is_word, say_last), "sum": (is_word, say_sum),
    "long": (is_length, say_long),
}
NAME_ROWS = {"endless": say_endless, "show": say_show}


# A TEXT may hold blanks and may be nothing, so a row is parted at its first two blanks alone.
def is_row(words):
    if len(words) < 2 or not is_name(words[1]):
        return False
    if len(words) == 2:
        return words[0] == "drop" or words[0] in NAME_ROWS
    return words[0] == "rule" or words[0] in WORD_ROWS and WORD_ROWS[words[0]][0](words[2])


def words_of(row):
    if not isinstance(row, str):
        raise NoRow("a row is a text")
    words = row.split(" ", 2)
    if not is_row(words):
        raise NoRow("a row is one of the told words, a name, and what belongs behind it, parted by single blanks")
    return words


def answer(keeper, words):
    if len(words) == 2:
        return NAME_ROWS[words[0]](keeper)
    return WORD_ROWS[words[0]][1](keeper, words[2])


class Desk:
    def __init__(self):
        self.keepers = {}

    def names(self):
        return sorted(self.keepers)

    def say(self, row):
        words = words_of(row)
        if words[0] == "rule":
            return self.lay(words[1], words[2])
        if words[1] not in self.keepers:
            raise NoName("no rule stands by this name")
        if words[0] == "drop":
            return self.drop(words[1])
        return answer(self.keepers[words[1]], words)

    # The desk asks its Keepers for no change in how many, so any number will do for theirs.
    def lay(self, name, text):
        self.keepers[name] = Keeper(read_rule(text), 0)
        return "ok"

    def drop(self, name):
        self.keepers.pop(name)
        return "ok"
