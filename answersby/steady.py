"""Steady behaviours: equal questions get equal outcomes."""

from answersby.checks import is_one_of
from answersby.errors import NoRelation, Unanswered
from answersby.machines import check_machine
from answersby.passes import BEGINNING, past_behind, place_of
from answersby.scripts import check_script

RELATIONS = ("same", "opposite", "nonzero", "counts")
ANSWERS = ("yes", "no", "count", "done", "got")


def _are_related_answers(relation, first, second, items):
    """Whether two ends are related, of which one at least is an answer; then both are."""
    if relation == "same":
        return first == second
    if relation == "opposite":
        return (first, second) in ((("yes",), ("no",)), (("no",), ("yes",)))
    if relation == "nonzero":
        if second[0] != "count":
            return False
        return first == (("no",) if second[1] == 0 else ("yes",))
    return first == ("count", items) and second == ("done",)


def check_relation(relation):
    """Raises NoRelation(relation) unless it is a relation (any value)."""
    if not is_one_of(relation, RELATIONS):
        raise NoRelation(relation)


def related(relation, first, second, items):
    """Whether two ends are related; items is the number of items of the second run."""
    check_relation(relation)
    if not any([end[0] in ANSWERS for end in (first, second)]):
        return True
    return _are_related_answers(relation, first, second, items)


def questions(machine, script):
    """The tuples (call, place, outcome) of a script that a machine plays."""
    check_machine(machine)
    check_script(script)
    walk = machine.walk()
    past = BEGINNING
    asked = []
    for outcome in script:
        call = walk.call()
        walk(outcome)
        asked.append((call, place_of(call, past), outcome))
        past = past_behind(call, past)
    return asked


def steady_end(machine, answers):
    """The tuple (end, items) of the run that gets these answers to its questions."""
    check_machine(machine)
    outcomes = {}
    for call, place, outcome in answers:
        outcomes.setdefault((call, place), outcome)
    walk = machine.walk()
    past = BEGINNING
    items = 0
    met = {}
    while walk.end() is None:
        # Behind an equal row and past an equal run goes on again, and so for ever.
        if (walk.at(), past) in met:
            return (None, 0)
        met[walk.at(), past] = True
        call = walk.call()
        question = (call, place_of(call, past))
        if question not in outcomes:
            raise Unanswered(call)
        if outcomes[question] in ("same", "other"):
            items += 1
        walk(outcomes[question])
        past = past_behind(call, past)
    return (walk.end(), items)
