"""A Keeper: a rule whose stretches come and go, and how many good numbers that leaves below a number."""

from lackstretch.errors import NoStretch, TooMany
from lackstretch.figures import MOST_STRETCHES, check_number, check_rule, copy_of, figures_of, is_stretch
from lackstretch.tails import Tails
from lackstretch.which import good_at


class Keeper:
    def __init__(self, rule, b):
        check_rule(rule)
        check_number(b)
        self.base = rule[0]
        self.bad = copy_of(rule)[1]
        self.bound = b
        # Kept as long as the stretches stay, so that nothing of a stand is counted anew for each number asked.
        self.tails = Tails(rule)

    def come(self, stretch):
        if len(self.bad) == MOST_STRETCHES:
            raise TooMany("there are four stretches already")
        if not is_stretch(self.base, stretch) or stretch in self.bad:
            raise NoStretch("only a stretch of the base that is not there yet can come")
        return self.turn_to(sorted(self.bad + [list(stretch)]))

    # The kind is asked first: to Python [True] and [1] are alike.
    def go(self, stretch):
        if not is_stretch(self.base, stretch) or stretch not in self.bad:
            raise NoStretch("only a stretch that is there can go")
        return self.turn_to([each for each in self.bad if each != stretch])

    def turn_to(self, bad):
        before = self.below(self.bound)
        self.bad = bad
        self.tails = Tails((self.base, bad))
        return (before, self.below(self.bound))

    def rule(self):
        return copy_of((self.base, self.bad))

    def good(self, k):
        return good_at(self.tails, k)

    def below(self, n):
        return self.tails.many_below(figures_of(self.base, n))
