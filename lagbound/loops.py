"""The search for two ways whose common loop changes their lag.

A step writes two words; their difference of length is its weight. A loop whose weight is not 0 changes every lag. If
there is none, the lags at a pair are compared by a loop ahead of it that writes something: from a lag that this loop
keeps, the words that may be written on from the pair for ever are known to fit together.
"""

from lagbound.graphs import edge_table, loop_groups
from lagbound.twins import steps_by_source
from lagbound.words import lag_of, move_lag


def growing_paper(twins):
    """A right growth paper for a machine beside itself, or None if the machine is steady."""
    groups = loop_groups(twins.all_pairs, edge_table([(step[0], step[3]) for step in twins.steps]))
    inner = [step for step in twins.steps if groups[step[0]] == groups[step[3]]]
    paper = unbalanced_paper(twins, steps_by_source(inner))
    if paper is not None:
        return paper
    # One step that lies on a loop and writes something, for each group of pairs on common loops.
    writing = {groups[step[0]]: step for step in inner if step[2] != ("", "")}
    return LagSearch(twins, list(writing.values())).found()


def unbalanced_paper(twins, inner):
    """A growth paper with a loop whose weight is not 0, or None.

    `inner` has for each pair the list of its steps that lie on loops.
    """
    unbalanced = unbalanced_step(inner)
    if unbalanced is None:
        return None
    root, step = unbalanced
    start, steps = way_from_begins(twins, root)
    # Both walks to the target of the step, which have unlike weights, are completed to loops by the same steps.
    back = steps_between(twins.onward, [step[3]], {root: True})
    loop = steps_between(twins.onward, [root], {step[0]: True}) + [step] + back
    if weight_of(loop) == 0:
        loop = steps_between(twins.onward, [root], {step[3]: True}) + back
    return paper_of(start, steps + loop, len(steps))


def unbalanced_step(inner):
    """A pair, and a step on its loops to whose target the shortest steps from the pair have another weight; or None."""
    weights = {}
    for root in inner:
        found = [] if root in weights else [root]
        weights[root] = weights.get(root, 0)
        at = 0
        while at < len(found):
            source = found[at]
            for step in inner[source]:
                weight = weights[source] + weight_of([step])
                if step[3] not in weights:
                    weights[step[3]] = weight
                    found.append(step[3])
                elif weights[step[3]] != weight:
                    return root, step
            at += 1
    return None


def weight_of(steps):
    """By how many letters more the steps write on the first side than on the second one."""
    return sum([len(step[2][0]) - len(step[2][1]) for step in steps])


def way_from_begins(twins, pair):
    """A pair of begins, and as few steps as possible from there to the pair."""
    starts = {(start[0][0], start[1][0]): start for start in twins.starts}
    steps = steps_between(twins.onward, list(starts), {pair: True})
    return starts[steps[0][0] if steps else pair], steps


def steps_between(onward, starts, goals):
    """As few steps as possible from one of the starts to one of the goals, which are in reach."""
    found = list(starts)
    origins = {pair: None for pair in starts}
    at = 0
    while found[at] not in goals:
        source = found[at]
        for step in onward.get(source, []):
            if step[3] not in origins:
                origins[step[3]] = step
                found.append(step[3])
        at += 1
    step = origins[found[at]]
    backwards = []
    while step is not None:
        backwards.append(step)
        step = origins[step[0]]
    return backwards[::-1]


class LagSearch:
    """A search through the lags of pairs from which steps lead to loops that write something; no loop has a weight.

    For each pair two lags are followed at most. They have unlike differences, since the loop ahead keeps one lag for
    each difference alone. Only one pair of endless words fits behind both of them: therefore, if a step and the loop
    ahead of its target suit these two lags, they suit every lag that the loop ahead of the pair keeps.
    """

    def __init__(self, twins, writing):
        self.twins = twins
        # For the first pair of each of the writing steps the loop of this step.
        self.loops = {step[0]: loop_of(twins, step) for step in writing}
        self.ahead = steps_toward(twins.steps, self.loops)
        self.kept = {}
        # An entry is a tuple (pair, lag, number, step): the number of the entry before it and the step from there, or
        # None and the pair of begins.
        self.entries = []

    def found(self):
        """A growth paper, or None if there is none."""
        for begin, mate in self.twins.starts:
            paper = self.reached((begin[0], mate[0]), lag_of(begin[1], mate[1]), None, (begin, mate))
            if paper is not None:
                return paper
        at = 0
        while at < len(self.entries):
            pair, lag, _, _ = self.entries[at]
            for step in self.twins.onward.get(pair, []):
                paper = self.reached(step[3], move_lag(lag, step[2][0], step[2][1]), at, step)
                if paper is not None:
                    return paper
            at += 1
        return None

    def reached(self, pair, lag, before, step):
        """The growth paper of a lag that the loop ahead changes, or None after the lag was kept if that is due."""
        kept = self.kept.setdefault(pair, [])
        risky = pair in self.loops or pair in self.ahead
        if lag in kept or not risky:
            return None
        ahead, loop = self.way_ahead(pair)
        before_loop = lag_over(lag, ahead)
        if lag_over(before_loop, loop) != before_loop:
            start, steps = self.way_behind(before, step)
            return paper_of(start, steps + ahead + loop, len(steps) + len(ahead))
        if len(kept) < 2:
            kept.append(lag)
            self.entries.append((pair, lag, before, step))
        return None

    def way_ahead(self, pair):
        """The steps from the pair to the loop ahead of it, and the steps of this loop."""
        steps = []
        source = pair
        while source not in self.loops:
            steps.append(self.ahead[source])
            source = self.ahead[source][3]
        return steps, self.loops[source]

    def way_behind(self, before, step):
        """The pair of begins and the steps that lead to an entry and on by the step."""
        backwards = [step]
        number = before
        while number is not None:
            _, _, number, earlier = self.entries[number]
            backwards.append(earlier)
        return backwards[-1], backwards[-2::-1]


def loop_of(twins, step):
    """A loop of steps that begins with the step."""
    return [step] + steps_between(twins.onward, [step[3]], {step[0]: True})


def steps_toward(steps, goals):
    """For each pair from which steps lead to goals, and which is none, the first one of as few steps as possible."""
    into = {}
    for step in steps:
        into.setdefault(step[3], []).append(step)
    toward = {}
    found = list(goals)
    at = 0
    while at < len(found):
        target = found[at]
        for step in into.get(target, []):
            if step[0] not in goals and step[0] not in toward:
                toward[step[0]] = step
                found.append(step[0])
        at += 1
    return toward


def lag_over(lag, steps):
    """The lag after the steps."""
    return move_lag(lag, "".join([step[2][0] for step in steps]), "".join([step[2][1] for step in steps]))


def paper_of(start, steps, at):
    """The growth paper of a pair of begins and steps whose loop begins behind the first `at` of them."""
    begin, mate = start
    first = [(source[0], letter, words[0], target[0]) for source, letter, words, target in steps]
    second = [(source[1], letter, words[1], target[1]) for source, letter, words, target in steps]
    return (begin, first), (mate, second), at
