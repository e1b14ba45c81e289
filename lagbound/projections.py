"""The sets of words that a machine takes and tells."""

from lagbound.acceptors import Acceptor, least_acceptor
from lagbound.errors import TooLarge
from lagbound.limits import MAX_ACCEPTOR, MAX_STATES
from lagbound.machines import Machine
from lagbound.shaping import trim
from lagbound.stepping import arcs_by_letter, entries_by_state
from lagbound.wordsets import least_word


def taken(machine):
    """The least acceptor of the words that the machine takes."""
    trimmed = trim(machine)
    table = arcs_by_letter(trimmed)

    def after(states, letter):
        """The set of states that arcs with the letter lead to."""
        return as_set([arc[3] for state in states for arc in table[letter].get(state, [])])

    first = as_set([begin[0] for begin in trimmed.begins])
    final = {end[0]: True for end in trimmed.ends}
    return acceptor_of_sets(machine.read, first, after, final)


def as_set(members):
    """The members in ascending order, each once: equal sets are equal tuples."""
    return tuple(sorted(set(members)))


def acceptor_of_sets(letters, first, after, final):
    """The least acceptor of the words whose set, found from the first one, has a final member."""
    numbers = {first: 0}
    found = [first]
    moves = []
    while len(moves) < len(found):
        members = found[len(moves)]
        row = []
        for letter in letters:
            target = after(members, letter)
            if target not in numbers:
                numbers[target] = len(found)
                found.append(target)
            row.append(numbers[target])
        if len(found) > MAX_ACCEPTOR:
            raise TooLarge("states", MAX_ACCEPTOR)
        moves.append(row)
    ends = [number for number, members in enumerate(found) if any(member in final for member in members)]
    return least_acceptor(Acceptor(letters, moves, ends))


class Places:
    """The places of a machine between written letters: pairs of a state, or -1, and what is still to be written.

    Each place that is met gets a number. All states of the machine are useful.
    """

    def __init__(self, machine):
        self.arcs_of = entries_by_state(machine.arcs)
        self.ends_of = entries_by_state(machine.ends)
        self.numbers = {}
        self.met = []
        self.onward = {}

    def numbered(self, places):
        """The set of the numbers of the places, and of those that follow where nothing is left to be written."""
        reached = {place: True for place in places}
        waiting = list(reached)
        while waiting:
            state, rest = waiting.pop()
            followers = self.followers(state) if rest == "" else []
            for place in followers:
                if place not in reached:
                    reached[place] = True
                    waiting.append(place)
        return as_set([self.number_of(place) for place in reached])

    def followers(self, state):
        """The places behind a state: after its arcs, and after its ends."""
        places = [(arc[3], arc[2]) for arc in self.arcs_of.get(state, [])]
        return places + [(-1, end[1]) for end in self.ends_of.get(state, [])]

    def number_of(self, place):
        """The number of the place."""
        if place not in self.numbers:
            self.numbers[place] = len(self.met)
            self.met.append(place)
        return self.numbers[place]

    def after(self, members, letter):
        """The set after one more letter is written."""
        found = []
        for member in members:
            if self.met[member][1].startswith(letter):
                found.extend(list(self.after_one(member)))
        return as_set(found)

    def after_one(self, member):
        """The set that one place leads to by the first letter that is still to be written."""
        if member not in self.onward:
            state, rest = self.met[member]
            self.onward[member] = self.numbered([(state, rest[1:])])
        return self.onward[member]


def all_told(machine):
    """The least acceptor of all told words for all read words."""
    trimmed = trim(machine)
    places = Places(trimmed)
    first = places.numbered(trimmed.begins)
    final = {places.number_of((-1, "")): True}

    def after(members, letter):
        """The set after one more letter is written."""
        return places.after(members, letter)

    return acceptor_of_sets(machine.write, first, after, final)


def never_told(machine):
    """The least word that is no told word for any read word, or None."""
    return least_word(~all_told(machine))


def copying(acceptor):
    """The machine that takes what the acceptor accepts, and tells what it reads."""
    if len(acceptor) > MAX_STATES:
        raise TooLarge("states", MAX_STATES)
    letters = acceptor.letters
    arcs = []
    for state, row in enumerate(acceptor.moves):
        arcs.extend([(state, letter, letter, target) for letter, target in zip(letters, row)])
    ends = [(state, "") for state in acceptor.ends]
    return Machine(letters, letters, len(acceptor), begins=[(0, "")], arcs=arcs, ends=ends)
