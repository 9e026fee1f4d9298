"""The states that histories can come to, and shortest histories that show a fault."""

from leafmarks.deeds import KINDS, LEADING
from leafmarks.errors import TooMany
from leafmarks.ranks import ranked, spread, with_deed
from leafmarks.spaces import steps_of


class Search:
    """A space in which one fault is watched, and the kinds of deeds that histories may have.

    With a book of any length states are ranks, and a deed's place is a number of the spread ranks of its state.
    """

    def __init__(self, space, kinds):
        self.space = space
        self.kinds = [kind for kind in KINDS if kind in kinds]
        # Any deed can lose a place; each other fault is one of what a device shows when it has taken.
        self.faulty_kinds = [kind for kind in self.kinds if kind == "take" or "lost" in space.watched]
        self.is_ranked = space.floors[0] is None

    def targets(self, device, values):
        """Return the places to which a device can jump, ascending."""
        if self.is_ranked:
            return list(range(2 * len(set([0, *values]))))
        floors = self.space.floors[device]
        return [cut for cut in range(len(floors)) if floors[cut] == cut]

    def deeds_in(self, origin, values, kinds):
        """Return the deeds of some kinds that can be done in a state, whose values are the origin's as they are."""
        deeds = []
        for device in range(len(self.space.floors)):
            here = origin[0][device * self.space.width]
            leading = [kind for kind in kinds if kind in LEADING]
            targets = self.targets(device, values) if len(leading) > 0 else []
            for kind in leading:
                deeds.extend([(kind, device, there) for there in targets if kind == "jump" or there > here])
            deeds.extend([(kind, device) for kind in kinds if kind not in LEADING])
        return deeds

    def origin(self, state):
        """Return a state as its deeds find it."""
        return spread(state) if self.is_ranked else state

    def faulty_deed(self, state):
        """Return a deed that shows the fault in a state, or None."""
        origin = self.origin(state)
        for deed in self.deeds_in(origin, state[0], self.faulty_kinds):
            if self.space.behind(origin, deed)[1] != []:
                return deed
        return None

    def ways_from(self, state):
        """Return all deeds that can be done in a state, each with the state behind it."""
        origin = self.origin(state)
        ways = []
        for deed in self.deeds_in(origin, state[0], self.kinds):
            after = self.space.behind(origin, deed)[0]
            ways.append((deed, ranked(after) if self.is_ranked else after))
        return ways

    def answer(self, word, most):
        """Return ("run", a shortest history that shows the fault), or the word and all states, if there is none."""
        ahead = {self.space.beginning(): None}
        level = list(ahead)
        while len(level) > 0:
            # A fault at the next deed counts before more states do.
            for state in level:
                deed = self.faulty_deed(state)
                if deed is not None:
                    return "run", self.history_to(ahead, state, deed)
            level = self.next_level(ahead, level, most)
        return word, sorted(set(ahead))

    def next_level(self, ahead, level, most):
        """Put the states that one more deed leads to into those that have one ahead, and return them."""
        following = []
        for state in level:
            for deed, after in self.ways_from(state):
                if after not in ahead:
                    ahead[after] = (state, deed)
                    following.append(after)
                    if len(ahead) > most:
                        raise TooMany(most)
        return following

    def history_to(self, ahead, state, deed):
        """Return the history that leads to a state, and the deed behind it."""
        deeds = [deed]
        while ahead[state] is not None:
            state, last = ahead[state]
            deeds.append(last)
        history = []
        for deed in deeds[::-1]:
            history = with_deed(history, self.values_behind(history), deed) if self.is_ranked else [*history, deed]
        return history

    def values_behind(self, history):
        """Return the values behind a history."""
        if history == []:
            return self.space.beginning()[0]
        return steps_of(self.space, history)[-1][0][0]

    def is_closed(self, states):
        """Tell whether the beginning is among states, none shows the fault, and each deed leads to one of them."""
        known = {state: True for state in states}
        if self.space.beginning() not in known:
            return False
        for state in known:
            if self.faulty_deed(state) is not None:
                return False
            for deed, after in self.ways_from(state):
                if after not in known:
                    return False
        return True
