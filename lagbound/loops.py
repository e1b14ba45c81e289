"""The search for two ways whose common loop changes their lag."""

from lagbound.graphs import all_reached, edge_table, loop_groups
from lagbound.words import lag_of, move_lag


def growing_paper(twins):
    """A right growth paper for a machine beside itself, or None if the machine is steady."""
    search = LagSearch(twins)
    for start in twins.starts:
        paper = search.from_begins(start)
        if paper is not None:
            return paper
    return None


class LagSearch:
    """A search in depth through the lags of risky pairs.

    An entry is a tuple (pair, lag, number, step): the number of the entry before it and the step from there, or None
    and the pair of begins. One entry is kept for each risky pair and each difference of a lag.
    """

    def __init__(self, twins):
        self.loops = writing_loops(twins)
        self.onward = risky_steps(twins, self.loops)
        self.entries = []
        self.numbers = {}
        self.way = {}

    def from_begins(self, start):
        """The growth paper that is found from a pair of begins, or None."""
        begin, mate = start
        pair = (begin[0], mate[0])
        if pair not in self.onward:
            return None
        paper = self.entered(pair, lag_of(begin[1], mate[1]), None, start)
        # For each entry of the current way how many of its steps were taken. What is not new is not entered.
        waiting = [(self.way[pair], 0)] if pair in self.way else []
        while waiting and paper is None:
            number, taken = waiting.pop()
            source, lag, _, _ = self.entries[number]
            if taken == len(self.onward[source]):
                del self.way[source]
                continue
            waiting.append((number, taken + 1))
            step = self.onward[source][taken]
            count = len(self.entries)
            paper = self.entered(step[3], move_lag(lag, step[2][0], step[2][1]), number, step)
            if len(self.entries) > count:
                waiting.append((count, 0))
        return paper

    def entered(self, pair, lag, before, step):
        """None after the lag was entered if it is new, or the growth paper that it shows."""
        if pair in self.way:
            known = self.way[pair]
            return None if self.entries[known][1] == lag else self.looped(known, before, step)
        mark = (pair, len(lag[0]) - len(lag[1]))
        if mark in self.numbers:
            known = self.numbers[mark]
            return None if self.entries[known][1] == lag else self.parted(known, lag, before, step)
        self.numbers[mark] = len(self.entries)
        self.way[pair] = len(self.entries)
        self.entries.append((pair, lag, before, step))
        return None

    def way_to(self, number):
        """The pair of begins, and the list of the steps, that lead to an entry."""
        backwards = []
        while number is not None:
            _, _, number, step = self.entries[number]
            backwards.append(step)
        return backwards[-1], backwards[-2::-1]

    def looped(self, known, before, step):
        """The growth paper of a way that comes back to a pair with another lag."""
        start, steps = self.way_to(before)
        return paper_of(start, steps + [step], len(self.way_to(known)[1]))

    def parted(self, known, lag, before, step):
        """The growth paper of one of two ways to a pair, with unlike lags but equal differences.

        Every step keeps the two lags unlike, and a loop that writes something changes one of them at least.
        """
        pair = self.entries[known][0]
        ahead, loop = self.way_to_loop(pair)
        start, steps = self.way_to(known)
        if changes(self.entries[known][1], ahead, loop):
            return paper_of(start, steps + ahead + loop, len(steps) + len(ahead))
        if before is None:
            start, steps = step, []
        else:
            start, steps = self.way_to(before)
            steps.append(step)
        return paper_of(start, steps + ahead + loop, len(steps) + len(ahead))

    def way_to_loop(self, pair):
        """Two lists of steps: from the pair to a loop that writes something, and round this loop."""
        firsts = {step[0]: step for step in self.loops}
        ahead = steps_between(self.onward, pair, firsts)
        source = ahead[-1][3] if ahead else pair
        first = firsts[source]
        return ahead, [first] + steps_between(self.onward, first[3], {source: first})


def writing_loops(twins):
    """The steps that lie on loops and write something."""
    edges = edge_table([(step[0], step[3]) for step in twins.steps])
    groups = loop_groups(twins.pairs, edges)
    return [step for step in twins.steps if groups[step[0]] == groups[step[3]] and step[2] != ("", "")]


def risky_steps(twins, loops):
    """For each risky pair, from which steps lead to those of the loops, the list of its steps to risky pairs."""
    backward = edge_table([(step[3], step[0]) for step in twins.steps])
    risky = all_reached([step[0] for step in loops], backward)
    return {pair: [step for step in twins.onward[pair] if step[3] in risky] for pair in risky}


def steps_between(onward, start, goals):
    """As few steps as possible from a pair to one of the goals, some of which are in reach."""
    found = [start]
    origins = {start: None}
    at = 0
    while found[at] not in goals:
        source = found[at]
        for step in onward[source]:
            if step[3] not in origins:
                origins[step[3]] = step
                found.append(step[3])
        at += 1
    step = origins[found[at]]
    backwards = []
    while step is not None:
        backwards.append(step)
        step = origins[step[0]]
    return backwards[::-1]


def changes(lag, ahead, loop):
    """Whether the loop changes the lag when it is gone round behind the steps to it."""
    before = lag_over(lag, ahead)
    return lag_over(before, loop) != before


def lag_over(lag, steps):
    """The lag after the steps."""
    return move_lag(lag, "".join([step[2][0] for step in steps]), "".join([step[2][1] for step in steps]))


def paper_of(start, steps, at):
    """The growth paper of a pair of begins and steps whose loop begins behind the first `at` of them."""
    begin, mate = start
    first = [(source[0], letter, words[0], target[0]) for source, letter, words, target in steps]
    second = [(source[1], letter, words[1], target[1]) for source, letter, words, target in steps]
    return (begin, first), (mate, second), at
