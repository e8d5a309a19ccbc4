"""Papers of plans: whether a thing shows that a plan costs the least, or that there is none."""

from drowsetree.dozeplan import PLAN_TURNS
from drowsetree.dozesteps import PlanRules
from drowsetree.words import is_list, is_number


def shows_plan(machine, uses, thing, *, many=PLAN_TURNS, awake=()):
    """Whether the thing tells a plan, or that there is none, with a table that shows it."""
    rules = PlanRules(machine, uses, many, awake)
    if not isinstance(thing, tuple):
        return False
    if len(thing) == 2 and thing[0] == "none":
        return _is_table(rules, thing[1]) and thing[1][0][rules.start()] is None
    if len(thing) != 4 or thing[0] != "plan":
        return False
    _, cost, way, table = thing
    if not is_number(cost) or not _is_table(rules, table) or table[0][rules.start()] != cost:
        return False
    return _is_way(rules, way) and sum([rules.cost(steps) for steps in way]) == cost


def _is_table(rules, thing):
    """Whether the thing is a table that shows what all turns behind each one cost at least."""
    many = rules.turns() + 1
    if not is_list(thing, many, many):
        return False
    if not all([_is_dict_of_steps(rules, one) for one in thing]) or rules.start() not in thing[0]:
        return False
    for turn in range(rules.turns()):
        if not _are_shown(rules, turn + 1, thing[turn], thing[turn + 1]):
            return False
    last = list(thing[-1].values())
    return all([number is not None and number <= 0 for number in last])


def _is_dict_of_steps(rules, thing):
    """Whether the thing is a dict from tuples of steps to whole numbers or None."""
    if not isinstance(thing, dict) or not all([rules.are_steps(steps) for steps in thing]):
        return False
    return all([number is None or is_number(number) for number in list(thing.values())])


def _are_shown(rules, turn, ahead, behind):
    """Whether what stands ahead of a turn is shown by what stands for the turn itself."""
    for steps in ahead:
        for one in rules.next_steps(steps, turn):
            if one not in behind or not _is_shown(ahead[steps], rules.cost(one), behind[one]):
                return False
    return True


def _is_shown(number, cost, behind):
    """Whether a number, or None, may stand ahead of a turn of this cost and of what stands behind it."""
    if behind is None:
        return True
    return number is not None and number <= cost + behind


def _is_way(rules, thing):
    """Whether the thing is a list of steps, turn by turn, that follow one another by needs and uses."""
    if not is_list(thing, rules.turns(), rules.turns()):
        return False
    ahead = rules.start()
    for at, steps in enumerate(thing):
        if steps not in rules.next_steps(ahead, at + 1):
            return False
        ahead = steps
    return True
