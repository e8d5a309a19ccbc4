"""Plans of dozing: when devices wake and doze, so that told uses cost the least."""

from drowsetree.dozesteps import PlanRules

PLAN_TURNS = 6


def doze_plan(machine, uses, *, many=PLAN_TURNS, awake=()):
    """A way that costs the least, its cost, and the table that shows it; or that there is none."""
    rules = PlanRules(machine, uses, many, awake)
    table = _table_of(rules)
    cost = table[0][rules.start()]
    if cost is None:
        return ("none", table)
    return ("plan", cost, _way_by(rules, table), table)


def _table_of(rules):
    """For each turn, and ahead of the first one, what all turns behind cost at least, by steps."""
    followed = _followed(rules)
    table = [{steps: 0 for steps in followed[-1]}]
    for after in reversed(followed[:-1]):
        # The table grows from the last turn to the first one.
        table = [_costs_behind(rules, after, table[0]), *table]
    return table


def _followed(rules):
    """For each turn, and ahead of the first one, all steps to which one can come, and what follows them."""
    told = []
    reached = {rules.start(): True}
    for turn in range(rules.turns()):
        after = {steps: rules.next_steps(steps, turn + 1) for steps in reached}
        told.append(after)
        reached = {one: True for steps in after for one in after[steps]}
    return [*told, {steps: [] for steps in reached}]


def _costs_behind(rules, after, behind):
    """What all turns behind one cost at least, by its steps; behind is that of the next turn."""
    told = {}
    for steps in after:
        costs = [rules.cost(one) + behind[one] for one in after[steps] if behind[one] is not None]
        told[steps] = min(costs) if costs != [] else None
    return told


def _way_by(rules, table):
    """The first way that costs as little as the table tells."""
    way = []
    steps = rules.start()
    for turn in range(rules.turns()):
        behind = table[turn + 1]
        left = table[turn][steps]
        cheapest = []
        for one in rules.next_steps(steps, turn + 1):
            if behind[one] is not None and rules.cost(one) + behind[one] == left:
                cheapest.append(one)
        steps = cheapest[0]
        way.append(steps)
    return way
