"""The states that histories can come to, and shortest histories that show a fault."""

from leafmarks.deeds import KINDS, LEADING
from leafmarks.errors import TooMany
from leafmarks.ranks import ranked, spread, with_deed
from leafmarks.spaces import steps_of


class Search:
    """A space in which one fault is watched, and the kinds of deeds that histories may have.

    With a book of any length states are ranks, and a deed's place is a number of the spread ranks of its state.
    """

    def __init__(self, space, kinds):
        self.space = space
        self.kinds = [kind for kind in KINDS if kind in kinds]
        # Any deed can lose a place; each other fault is one of what a device shows when it has taken.
        self.faulty_kinds = [kind for kind in self.kinds if kind == "take" or "lost" in space.watched]
        self.is_ranked = space.floors[0] is None

    def targets(self, device, values):
        """Return the places to which a device can jump, ascending."""
        if self.is_ranked:
            return list(range(2 * len(set([0, *values]))))
        floors = self.space.floors[device]
        return [cut for cut in range(len(floors)) if floors[cut] == cut]

    def deeds_in(self, state, origin, kinds):
        """Return the deeds of some kinds that can be done in a state, told in the places of its origin."""
        deeds = []
        for device in range(len(self.space.floors)):
            here = origin[0][device * self.space.width]
            leading = [kind for kind in kinds if kind in LEADING]
            targets = self.targets(device, state[0]) if len(leading) > 0 else []
            for kind in leading:
                deeds.extend([(kind, device, there) for there in targets if kind == "jump" or there > here])
            deeds.extend([(kind, device) for kind in kinds if kind not in LEADING])
        return deeds

    def origin(self, state):
        """Return a state with its values as the places to which deeds lead, with room for new ones."""
        return spread(state) if self.is_ranked else state

    def steps_from(self, state):
        """Return all deeds that can be done in a state, each with the state and the list of the faults behind it."""
        origin = self.origin(state)
        steps = []
        for deed in self.deeds_in(state, origin, self.kinds):
            after, faults = self.space.behind(origin, deed)
            steps.append((deed, ranked(after) if self.is_ranked else after, faults))
        return steps

    def faulty_deed(self, state):
        """Return a deed that shows the fault in a state, or None."""
        origin = self.origin(state)
        for deed in self.deeds_in(state, origin, self.faulty_kinds):
            if len(self.space.behind(origin, deed)[1]) > 0:
                return deed
        return None

    def answer(self, word, most):
        """Return ("run", a shortest history that shows the fault), or the word and all states, if there is none."""
        ahead = {self.space.beginning(): None}
        level = list(ahead)
        while len(level) > 0:
            following = []
            for state in level:
                # Where there are too many states, a fault at the next deed still counts, but no state behind it.
                deed = self.faulty_deed(state) if len(ahead) > most else self.followed(ahead, state, following)
                if deed is not None:
                    return "run", self.history_to(ahead, state, deed)
            if len(ahead) > most:
                raise TooMany(most)
            level = following
        return word, sorted(set(ahead))

    def followed(self, ahead, state, following):
        """Put the new states behind one into two collections; or return a deed that shows the fault in it."""
        for deed, after, faults in self.steps_from(state):
            if len(faults) > 0:
                return deed
            if after not in ahead:
                ahead[after] = (state, deed)
                following.append(after)
        return None

    def history_to(self, ahead, state, deed):
        """Return the history that leads to a state, and the deed behind it."""
        deeds = [deed]
        while ahead[state] is not None:
            state, last = ahead[state]
            deeds.append(last)
        history = []
        for deed in deeds[::-1]:
            history = with_deed(history, self.values_behind(history), deed) if self.is_ranked else [*history, deed]
        return history

    def values_behind(self, history):
        """Return the values behind a history."""
        if history == []:
            return self.space.beginning()[0]
        return steps_of(self.space, history)[-1][0][0]

    def is_closed(self, states):
        """Tell whether the beginning is among states, none shows the fault, and each deed leads to one of them."""
        known = {state: True for state in states}
        if self.space.beginning() not in known:
            return False
        for state in known:
            for deed, after, faults in self.steps_from(state):
                if len(faults) > 0 or after not in known:
                    return False
        return True
