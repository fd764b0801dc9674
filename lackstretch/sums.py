"""Sums of the good numbers below a number and of their figures, and how often a figure stands in them.

All three are totals: each figure has a weight in the last place, and scale times as much in each place further ahead.
A layer holds, by places as in Tails, what the figures of all good tails of just so many figures weigh together.
"""

from lackstretch.errors import NoFigures
from lackstretch.figures import check_rule, figures_of, is_figure
from lackstretch.tails import Tails


# Kept by figures left, so that no power is reckoned anew.
def weights_by_left(weights, scale, size):
    told = []
    for left in range(size):
        told.append(weights)
        weights = [scale * weight for weight in weights]
    return told


class Totals:
    def __init__(self, rule, weights, scale, size):
        self.tails = Tails(rule)
        self.weights = weights_by_left(weights, scale, size)
        # The number 0 has a figure, though the outset takes every 0 for none.
        self.layers = [[0] * self.tails.outset + [weights[0] * self.tails.many_within(0)]]
        for left in range(size):
            self.layers.append(self.longer_layer(left))

    def longer_layer(self, left):
        return [self.total_under(place, self.tails.base, left, 0) for place in range(self.tails.outset + 1)]

    # A 0 ahead of a number is none of its figures.
    def weight_of(self, behind, figure, left):
        if behind == self.tails.outset:
            return 0
        return self.weights[left][figure]

    # What stands ahead weighs anew with each tail, and so does the tail's first figure.
    def total_under(self, place, stop, left, ahead):
        counts = self.tails.layer(left)
        totals = self.layers[left]
        total = 0
        for figure, behind in enumerate(self.tails.steps[place][:stop]):
            if behind is not None:
                weight = ahead + self.weight_of(behind, figure, left)
                total += weight * counts[behind] + totals[behind]
        return total

    def total_below(self, figures):
        place = self.tails.outset
        ahead = 0
        total = 0
        for k in range(len(figures)):
            left = len(figures) - k - 1
            total += self.total_under(place, figures[k], left, ahead)
            place = self.tails.steps[place][figures[k]]
            if place is None:
                return total
            ahead += self.weight_of(place, figures[k], left)
        return total

    def total_within(self, size):
        return self.layers[size][self.tails.outset]


def number_totals(rule, size):
    return Totals(rule, list(range(rule[0])), rule[0], size)


def sum_below(rule, n):
    check_rule(rule)
    figures = figures_of(rule[0], n)
    return number_totals(rule, len(figures)).total_below(figures)


def figures_below(rule, n):
    check_rule(rule)
    figures = figures_of(rule[0], n)
    return Totals(rule, list(range(rule[0])), 1, len(figures)).total_below(figures)


def often_below(rule, n, figure):
    check_rule(rule)
    figures = figures_of(rule[0], n)
    if not is_figure(rule[0], figure):
        raise NoFigures("how often is told of one figure of the base")
    weights = [1 if each == figure else 0 for each in range(rule[0])]
    return Totals(rule, weights, 1, len(figures)).total_below(figures)
