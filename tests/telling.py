"""A plain second telling of marks, deeds, faults, states and searches, which the program is held against.

It follows the document's points 20, 22, 23, 26, 27, 30, 32 and 34 word by word, slowly. Books of any length are
read at fractions, so that there is always a place between two others.
"""

import fractions
import itertools

from leafmarks.rules import Rule
from tests.helpers import numbers_of, plain_kernel

WORDS = {
    "read": ("no", "last", "raise", "row"),
    "jump": ("no", "last", "raise", "lower"),
    "anew": ("no", "least"),
    "give": ("no", "last", "raise", "later"),
    "take": ("no", "last", "raise", "later"),
    "kept": ("exact", "floored"),
}
WAYS = ("stay", "field", "greater")
KINDS = ("read", "jump", "anew", "give", "take")
FAULTS = ("back", "ahead", "nobody", "lost")
FAR = ("far", "raise", "no", "least", "raise", "raise", "exact")
LATE = ("late", "last", "last", "least", "last", "last", "exact")


def field_with(name="f", **words):
    """A field with the words told, and otherwise such as keep what was read last and carry it everywhere."""
    told = {"read": "last", "jump": "last", "anew": "least", "give": "last", "take": "last", "kept": "exact"}
    told.update(words)
    return (name, *[told[column] for column in WORDS])


def rule_with(way="field", name="f", **words):
    return Rule([field_with(name, **words)], (way, name))


def drawn_rule(chance, many):
    """A rule of so many fields, each of its words drawn."""
    names = ["a", "bc", "d"][:many]
    fields = [(name, *[chance.choice(words) for words in WORDS.values()]) for name in names]
    return Rule(fields, (chance.choice(WAYS), chance.choice(names)))


def many_in(setting):
    return setting if isinstance(setting, int) else len(setting)


class Telling:
    """What stands behind a history by one rule, or by several side by side."""

    def __init__(self, rules, setting):
        self.rules = rules
        self.setting = setting
        self.many = many_in(setting)
        self.fields = [(at, dict(zip(("name", *WORDS), field))) for at, rule in enumerate(rules) for field in rule.fields()]
        self.places = [0] * self.many
        self.marks = [[0] * len(self.fields) for _ in range(self.many + 1)]
        self.stamps = [0] * (self.many + 1)
        self.row = self.top = 0
        self.come = {0}

    def copy(self):
        other = Telling.__new__(Telling)
        other.rules, other.setting, other.many, other.fields = self.rules, self.setting, self.many, self.fields
        other.places, other.stamps, other.come = list(self.places), list(self.stamps), set(self.come)
        other.marks = [list(mark) for mark in self.marks]
        other.row, other.top = self.row, self.top
        return other

    def kernel(self, device, cut):
        if isinstance(self.setting, int):
            return cut
        return plain_kernel(numbers_of(self.setting[device]), cut)

    def do(self, deed):
        """Do a deed, and return the words of the faults that it shows."""
        kind, device, *there = deed
        faults = getattr(self, kind)(device, *there) or []
        values = self.places + [value for mark in self.marks for value in mark]
        if all(value < self.top for value in values):
            faults.append("lost")
        return faults

    def newest(self, device):
        self.stamps[device] = max(self.stamps) + 1

    def read(self, device, q):
        p = self.places[device]
        assert q > p
        mark = self.marks[device]
        for at, (_, field) in enumerate(self.fields):
            f = mark[at]
            mark[at] = {"no": f, "last": q, "raise": max(f, q), "row": max(f, q) if p <= f else f}[field["read"]]
        if p <= self.row:
            self.row = max(self.row, q)
        self.top = max(self.top, q)
        self.come.add(q)
        self.places[device] = q
        self.newest(device)

    def jump(self, device, q):
        mark = self.marks[device]
        for at, (_, field) in enumerate(self.fields):
            f = mark[at]
            mark[at] = {"no": f, "last": q, "raise": max(f, q), "lower": min(f, q)}[field["jump"]]
        self.come.add(q)
        self.places[device] = q
        self.newest(device)

    def anew(self, device):
        mark = self.marks[device]
        for at, (_, field) in enumerate(self.fields):
            mark[at] = {"no": mark[at], "least": 0}[field["anew"]]
        self.row = self.top = self.places[device] = 0
        self.come = {0}
        self.newest(device)

    def give(self, device):
        shelf, later = self.marks[-1], self.stamps[device] > self.stamps[-1]
        for at, (_, field) in enumerate(self.fields):
            s, f = shelf[at], self.marks[device][at]
            shelf[at] = {"no": s, "last": f, "raise": max(s, f), "later": f if later else s}[field["give"]]
        self.stamps[-1] = max(self.stamps[-1], self.stamps[device])

    def take(self, device):
        mark, later = self.marks[device], self.stamps[-1] > self.stamps[device]
        for at, (_, field) in enumerate(self.fields):
            f, s = mark[at], self.marks[-1][at]
            mark[at] = {"no": f, "last": s, "raise": max(f, s), "later": s if later else f}[field["take"]]
            if field["kept"] == "floored":
                mark[at] = self.kernel(device, mark[at])
        self.stamps[device] = max(self.stamps[device], self.stamps[-1])
        p, places = self.places[device], []
        for at, rule in enumerate(self.rules):
            way, name = rule.show()
            (v,) = [mark[k] for k, (of, field) in enumerate(self.fields) if (of, field["name"]) == (at, name)]
            k = self.kernel(device, v)
            places.append({"stay": p, "field": k, "greater": max(p, k)}[way])
        self.places[device] = q = places[0]
        faults = []
        if q < p:
            faults.append("back")
        if q != p and q > self.row:
            faults.append("ahead")
        if q != p and q not in [self.kernel(device, cut) for cut in self.come]:
            faults.append("nobody")
        if places != [q] * len(places):
            faults.append("parted")
        return faults

    def state(self, fault):
        """The state of point 30, or of point 34 if the fault is that two rules part."""
        values = [value for place, mark in zip(self.places, self.marks) for value in (place, *mark)] + self.marks[-1]
        values += {"ahead": [self.row], "lost": [self.top]}.get(fault, [])
        has_later = any("later" in (field["give"], field["take"]) for _, field in self.fields)
        order = sorted(set(self.stamps))
        stamps = tuple(order.index(stamp) for stamp in self.stamps) if has_later else ()
        seen = sorted(self.come) if fault == "nobody" else []
        if isinstance(self.setting, int):
            ranks = {value: rank for rank, value in enumerate(sorted({0, *values}))}
            seen = [ranks[cut] for cut in seen if cut in values]
            values = [ranks[value] for value in values]
        told = (tuple(values), stamps, tuple(seen))
        return told[:2] if fault == "parted" else told

    def targets(self, device):
        """Each place, or one for all that are alike, to which the device could be led."""
        if not isinstance(self.setting, int):
            numbers = numbers_of(self.setting[device])
            return [0] + [number + 1 for number in numbers]
        known = sorted({0, self.row, self.top, *self.come, *self.places, *[value for mark in self.marks for value in mark]})
        between = [fractions.Fraction(low + high) / 2 for low, high in zip(known, known[1:])]
        return known + between + [known[-1] + 1]

    def deeds(self, kinds):
        for device in range(self.many):
            for kind in kinds:
                if kind in ("read", "jump"):
                    for there in self.targets(device):
                        if kind == "jump" or there > self.places[device]:
                            yield kind, device, there
                else:
                    yield kind, device


def told_of(rules, setting, history):
    """The list of (telling, faults) behind each deed of a history that can be done."""
    telling, told = Telling(rules, setting), []
    for deed in history:
        faults = telling.do(deed)
        told.append((telling.copy(), faults))
    return told


def plain_search(rules, fault, setting, kinds, bound):
    """("run", the number of deeds, of states), ("never", the states, their number), or ("more", None, None)."""
    first = Telling(rules, setting)
    known = {first.state(fault)}
    level = [first]
    for length in itertools.count(1):
        many, found, following = len(known), False, []
        for telling in level:
            for deed in telling.deeds(kinds):
                other = telling.copy()
                if fault in other.do(deed):
                    found = True
                elif other.state(fault) not in known:
                    known.add(other.state(fault))
                    following.append(other)
        if found:
            return "run", length, many
        if not following:
            return "never", sorted(known), many
        if len(known) > bound:
            return "more", None, None
        level = following


def drawn_history(chance, rules, setting, length, highest=6):
    """A history of so many deeds that can be done, drawn; its places are low, so that they often meet."""
    telling, history = Telling(rules, setting), []
    while len(history) < length:
        device, kind = chance.randrange(telling.many), chance.choice(KINDS)
        stands = [chance.randint(0, highest) for _ in range(3)] if isinstance(setting, int) else telling.targets(device)
        if kind == "read":
            stands = [there for there in stands if there > telling.places[device]]
        if kind in ("read", "jump"):
            if not stands:
                continue
            deed = (kind, device, chance.choice(stands))
        else:
            deed = (kind, device)
        telling.do(deed)
        history.append(deed)
    return history
