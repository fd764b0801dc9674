"""Tails: the figures that may still come behind a stand, counted once for each stand and number of figures left.

Stands go by their places among all stands of a rule. Behind these lies one place more, the outset, where no figure
of the number has come yet. A layer holds, by places, how many good tails of just so many figures there are; of the
outset these are the good numbers of at most so many.
"""

from lackstretch.figures import lacks_all
from lackstretch.stands import longest_stand, stands_of

MOST_FIGURES = 60


def place_behind(bad, stands, figures):
    stand = longest_stand(bad, figures)
    if stand is None:
        return None
    return stands.index(stand)


def steps_from(rule, stands, stand):
    return [place_behind(rule[1], stands, stand + [figure]) for figure in range(rule[0])]


# A 0 ahead of a number is none of its figures: the outset is not left by it.
def all_steps(rule, stands):
    steps = [steps_from(rule, stands, stand) for stand in stands]
    return steps + [[len(stands)] + steps[0][1:]]


class Tails:
    def __init__(self, rule):
        stands = stands_of(rule[1])
        self.base = rule[0]
        self.outset = len(stands)
        self.steps = all_steps(rule, stands)
        # Where no figure came and none is left, the number is 0, and its one figure may be bad.
        self.layers = [[1] * len(stands) + [1 if lacks_all(rule[1], [0]) else 0]]

    def layer(self, left):
        while len(self.layers) <= left:
            shorter = self.layers[-1]
            self.layers.append([self.many_by(shorter, place, self.base) for place in range(self.outset + 1)])
        return self.layers[left]

    def many_by(self, layer, place, stop):
        return sum([layer[behind] for behind in self.steps[place][:stop] if behind is not None])

    def many_under(self, place, stop, left):
        return self.many_by(self.layer(left), place, stop)

    # A number below has a lesser figure where it is first unlike these.
    def many_below(self, figures):
        place = self.outset
        many = 0
        for k in range(len(figures)):
            many += self.many_under(place, figures[k], len(figures) - k - 1)
            place = self.steps[place][figures[k]]
            if place is None:
                return many
        return many

    def many_within(self, size):
        return self.layer(size)[self.outset]

    def figure_at(self, place, k, left):
        figure = 0
        while self.many_under(place, figure + 1, left) <= k:
            figure += 1
        return figure

    # Only asked where more than k good numbers have at most so many figures; else there would be no figure to take.
    def number_at(self, size, k):
        place = self.outset
        n = 0
        for left in range(size - 1, -1, -1):
            figure = self.figure_at(place, k, left)
            k -= self.many_under(place, figure, left)
            place = self.steps[place][figure]
            n = n * self.base + figure
        return n

    # A number of more figures than there are stands comes to one of them twice, and so can go round for ever.
    def are_endless(self):
        return self.many_within(self.outset + 1) > self.many_within(self.outset)
