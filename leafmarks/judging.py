"""What rules can do in all histories, told with a shortest history or with a closed set of states."""

from leafmarks.basics import is_row, next_choice, picked
from leafmarks.deeds import KINDS
from leafmarks.errors import BadFault, BadKinds
from leafmarks.forms import are_states, plain_states
from leafmarks.rules import Rule
from leafmarks.searches import Search
from leafmarks.settings import require_setting
from leafmarks.spaces import FAULTS, Space, steps_of


def judged(rule, fault, setting, *, deeds=KINDS, most=5000):
    """Return ("run", a shortest history that shows the fault), or ("never", the states that can be come to)."""
    return search_for(rule, fault, setting, deeds).answer("never", most)


def is_run(rule, fault, setting, history, *, deeds=KINDS):
    """Tell whether any object is a history of the kinds of deeds that shows the fault at its last deed."""
    search = search_for(rule, fault, setting, deeds)
    if not is_row(history) or len(history) == 0:
        return False
    steps = steps_of(search.space, history)
    if len(steps) < len(history):
        return False
    return all([deed[0] in deeds for deed in history]) and steps[-1][1] != []


def is_never(rule, fault, setting, states, *, deeds=KINDS):
    """Tell whether any object is a closed set of states in none of which a deed shows the fault."""
    search = search_for(rule, fault, setting, deeds)
    return are_states(states, search.space) and search.is_closed(plain_states(states))


def rules_parted(one, other, setting, *, deeds=KINDS, most=5000):
    """Return ("run", a shortest history behind which the rules show unlike places), or ("alike", the states)."""
    require_setting(setting)
    require_kinds(deeds)
    word, told = Search(Space([one, other], setting, ()), deeds).answer("alike", most)
    if word == "run":
        return word, told
    return word, [(values, stamps) for values, stamps, come in told]


def needed(rule, fault, setting, *, deeds=KINDS, most=5000):
    """Return the names of as few fields as can be kept so that no history has the fault, or None."""
    fields, show = rule.fields(), rule.show()
    for chosen in choices_with(rule.at, len(fields)):
        kept = picked(fields, chosen)
        word, told = judged(Rule(kept, show), fault, setting, deeds=deeds, most=most)
        if word == "never":
            return [field[0] for field in kept]
    return None


def search_for(rule, fault, setting, deeds):
    """Return the search for a fault; refuse what cannot be asked."""
    require_question(fault, setting, deeds)
    return Search(Space([rule], setting, (fault,)), deeds)


def require_question(fault, setting, deeds):
    """Refuse any objects that are no setting, no fault and no kinds of deeds."""
    require_setting(setting)
    if fault not in FAULTS:
        raise BadFault(fault)
    require_kinds(deeds)


def require_kinds(deeds):
    """Refuse any object that is no list of one or more kinds of deeds, each once."""
    if not is_row(deeds) or len(deeds) == 0:
        raise BadKinds(deeds)
    for index, kind in enumerate(deeds):
        if kind not in KINDS or kind in deeds[:index]:
            raise BadKinds(deeds)


def choices_with(at, many):
    """Return the ascending lists of numbers below many that have one of them, the shorter ones first."""
    choices = []
    for size in range(1, many + 1):
        chosen = list(range(size))
        while chosen is not None:
            if at in chosen:
                choices.append(chosen)
            chosen = next_choice(chosen, many)
    return choices
