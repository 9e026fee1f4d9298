"""What stands behind the deeds of histories, as states, and which faults the deeds show."""

from leafmarks.basics import is_number, is_row, is_up_to, ranks_of
from leafmarks.deeds import KINDS, LEADING, floor_of, greater, place_shown, values_kept, values_led, values_met
from leafmarks.settings import floors_of

FAULTS = ("back", "ahead", "nobody", "lost")
# What two rules side by side do when they show unlike places; it is always watched.
PARTED = "parted"


class Space:
    """The states of the histories of one setting, with a rule or with several side by side.

    A state is a tuple (values, stamps, come). What is watched, a tuple of faults, tells what it has besides the
    places and the marks: the row for "ahead", the greatest place read to for "lost", both at the end of the values,
    and the places that are come to for "nobody".
    """

    def __init__(self, rules, setting, watched):
        reads = [word for rule in rules for word in rule.words_for("read")]
        self.columns = {column: [word for rule in rules for word in rule.words_for(column)] for column in KINDS}
        self.keeps = [word for rule in rules for word in rule.words_for("kept")]
        self.shows = shows_of(rules)
        self.floors = floors_of(setting)
        self.watched = watched
        self.extras = [fault for fault in ("ahead", "lost") if fault in watched]
        self.width = 1 + len(reads)
        self.shelf_at = len(self.floors) * self.width
        self.tail = self.shelf_at + len(reads)

    def has_stamps(self):
        """Tell whether it matters which mark is later."""
        return "later" in self.columns["give"] or "later" in self.columns["take"]

    def beginning(self):
        """Return the state at the beginning."""
        stamps = (0,) * (len(self.floors) + 1) if self.has_stamps() else ()
        come = (0,) if "nobody" in self.watched else ()
        return (0,) * (self.tail + len(self.extras)), stamps, come

    def can_be_done(self, state, deed):
        """Tell whether any object is a deed that can be done in a state."""
        if not is_row(deed) or len(deed) < 2 or deed[0] not in KINDS:
            return False
        if not is_up_to(deed[1], len(self.floors) - 1):
            return False
        if deed[0] not in LEADING:
            return len(deed) == 2
        return len(deed) == 3 and self.can_lead(state, deed)

    def can_lead(self, state, deed):
        """Tell whether any object is a place to which a device can read or jump."""
        kind, device, there = deed
        if not is_number(there) or there < 0 or not self.stands(device, there):
            return False
        return kind == "jump" or there > state[0][device * self.width]

    def stands(self, device, cut):
        """Tell whether a device's edition stands at a number from 0 on."""
        floors = self.floors[device]
        return floors is None or (cut < len(floors) and floors[cut] == cut)

    def behind(self, state, deed):
        """Return the state behind a deed that can be done, and the list of the watched faults that it shows."""
        kind, device = deed[0], deed[1]
        if kind == "give":
            after = self.behind_give(state, device)
            return after, self.lost_in(after[0])
        if kind == "take":
            return self.behind_take(state, device)
        after = self.behind_led(state, kind, device, deed[2] if kind in LEADING else 0)
        return after, self.lost_in(after[0])

    def behind_led(self, state, kind, device, there):
        """Return the state behind reading, jumping or beginning anew."""
        values, stamps, come = state
        start, end = device * self.width, (device + 1) * self.width
        here = values[start]
        own = values_led(kind, self.columns[kind], values[start + 1 : end], here, there)
        extras = self.extras_led(values[self.tail :], kind, here, there)
        after = (*values[:start], there, *own, *values[end : self.tail], *extras)
        return after, stamps_led(stamps, device), self.come_led(come, kind, there)

    def extras_led(self, extras, kind, here, there):
        """Return the row and the greatest place read to, as far as they are watched."""
        if kind == "jump":
            return extras
        if kind == "anew":
            return (0,) * len(extras)
        return [
            greater(extra, there) if fault == "lost" or here <= extra else extra
            for fault, extra in zip(self.extras, extras)
        ]

    def come_led(self, come, kind, there):
        """Return the places that are come to, if they are watched."""
        if "nobody" not in self.watched:
            return come
        return (0,) if kind == "anew" else tuple(sorted(set([0, there, *come])))

    def behind_give(self, state, device):
        """Return the state behind giving."""
        values, stamps, come = state
        start, end = device * self.width, (device + 1) * self.width
        is_later = len(stamps) > 0 and stamps[device] > stamps[-1]
        shelf = values_met(self.columns["give"], values[self.shelf_at : self.tail], values[start + 1 : end], is_later)
        after = (*values[: self.shelf_at], *shelf, *values[self.tail :])
        return after, stamps_met(stamps, len(stamps) - 1, device), come

    def behind_take(self, state, device):
        """Return the state behind taking, and the list of the watched faults."""
        values, stamps, come = state
        start, end = device * self.width, (device + 1) * self.width
        is_later = len(stamps) > 0 and stamps[-1] > stamps[device]
        own = values_met(self.columns["take"], values[start + 1 : end], values[self.shelf_at : self.tail], is_later)
        own = values_kept(self.keeps, own, self.floors[device])
        places = self.places_shown(device, values[start], own)
        after = (*values[:start], places[0], *own, *values[end:])
        faults = self.faults_of_take(state, device, places) + self.lost_in(after)
        return (after, stamps_met(stamps, device, len(stamps) - 1), come), faults

    def places_shown(self, device, here, own):
        """Return the place that each rule shows at a device that has taken the values."""
        floors = self.floors[device]
        return [place_shown(way, here, floor_of(floors, own[at])) for way, at in self.shows]

    def faults_of_take(self, state, device, places):
        """Return the list of the watched faults at a take behind which the rules show the places."""
        values, come = state[0], state[2]
        here, there = values[device * self.width], places[0]
        faults = []
        if "back" in self.watched and there < here:
            faults.append("back")
        if "ahead" in self.watched and there != here and there > values[self.tail]:
            faults.append("ahead")
        if "nobody" in self.watched and there != here:
            floors = self.floors[device]
            if there not in [floor_of(floors, cut) for cut in come]:
                faults.append("nobody")
        if places != [there] * len(places):
            faults.append(PARTED)
        return faults

    def lost_in(self, values):
        """Return the list of "lost" if it is watched and all places and values are too small, else an empty one."""
        if "lost" not in self.watched:
            return []
        top = values[-1]
        return ["lost"] if all([value < top for value in values[: self.tail]]) else []


def shows_of(rules):
    """Return for each rule the way, and the index of the value that is shown among those of all rules."""
    shows, ahead = [], 0
    for rule in rules:
        shows.append((rule.way, ahead + rule.at))
        ahead += len(rule.rows)
    return shows


def stamps_led(stamps, device):
    """Return the stamps when a device's has become later than all others."""
    if len(stamps) == 0:
        return ()
    # Ranks are below their number.
    top = len(stamps)
    return dense([top if at == device else stamp for at, stamp in enumerate(stamps)])


def stamps_met(stamps, own, other):
    """Return the stamps when one has become the later one of it and another one."""
    if len(stamps) == 0:
        return ()
    later = greater(stamps[own], stamps[other])
    return dense([later if at == own else stamp for at, stamp in enumerate(stamps)])


def dense(numbers):
    """Return the ranks of numbers, from 0 on."""
    ranks = ranks_of(numbers)
    return tuple([ranks[number] for number in numbers])


def steps_of(space, history):
    """Return the pairs (state, faults) behind the deeds of a list, up to the first that cannot be done."""
    steps = []
    state = space.beginning()
    for deed in history:
        if not space.can_be_done(state, deed):
            return steps
        state, faults = space.behind(state, deed)
        steps.append((state, faults))
    return steps
