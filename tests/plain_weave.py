"""What the document tells of Weaves and of their ends, told again as plainly as may be."""

import copy

from plain import PlainGetting, Refused

ANSWERS = {
    "Sleeping": lambda: ("sleeping",), "TooMany": lambda many: ("many",), "NotHeld": lambda found: ("unheld",),
    "Awake": lambda: ("awake",), "Broken": lambda found: ("broken", found), "Busy": lambda found, at: ("busy", found),
    "Slept": lambda found: ("slept", found), "Heard": lambda many: ("heard", many),
    "BrokenOff": lambda found, at: ("broke", found, at),
}


class PlainWeave:
    """A Weave, told again; a copy.deepcopy of it goes its own way."""

    def __init__(self, plain, tasks):
        self.plain = copy.deepcopy(plain)
        self.tasks = [list(task) for task in tasks]
        self.answers = [[] for _ in tasks]
        self.amid = [None for _ in tasks]

    def ready(self):
        return [at for at, task in enumerate(self.tasks) if len(self.answers[at]) < len(task)]

    def step(self, number):
        deed = self.tasks[number][len(self.answers[number])]
        try:
            answer = getattr(self, "do_" + deed[0])(number, *deed[1:])
        except Refused as found:
            word, fields = found.args
            answer = ANSWERS[word](**fields)
        if answer is not None:
            self.answers[number].append(answer)
            self.amid[number] = None
        return answer

    def do_gain(self, number, name):
        if self.amid[number] is None:
            self.amid[number] = PlainGetting(self.plain, name)
        self.amid[number].step()
        return ("done",) if self.amid[number].ended else None

    def do_sleep(self, number):
        if isinstance(self.amid[number], tuple):
            return self.amid[number]
        if self.amid[number] is None:
            looks = [answer for answer in self.answers[number] if answer[0] == "seen"]
            self.plain.begin_fall(*[looks[-1][1]] if looks else [])
            self.amid[number] = "falling"
        return ("done",) if self.plain.fall_step() else None

    def do_bell(self, _, name):
        word = self.plain.bell(name)
        if word == "broke":
            self.amid = [("broke", "bell", name) if one == "falling" else one for one in self.amid]
        return (word,)

    def do_release(self, _, name):
        self.plain.release(name)
        return ("done",)

    def do_use(self, _, name):
        self.plain.use(name)
        return ("used",)

    def do_tick(self, _, many):
        self.plain.tick(many)
        return ("done",)

    def do_look(self, _):
        return ("seen", self.plain.heard)

    def do_rise(self, _):
        self.plain.rise()
        return ("done",)

    def end(self):
        names = list(self.plain.devices)
        return (tuple(map(tuple, self.answers)), tuple(self.plain.state[name] for name in names),
                tuple(self.plain.count[name] for name in names), self.plain.mode)


def plain_ends(plain, tasks, *, most):
    """All ends, by going through every weaving: a list of tuples as the document tells it; None for too many."""
    found = {}
    waiting = [(PlainWeave(plain, tasks), [])]
    while waiting:
        most -= 1
        if most < 0:
            return None
        weave, weaving = waiting.pop()
        if not weave.ready():
            key = (len(weaving), weaving)
            found[weave.end()] = min(found.get(weave.end(), key), key)
        for number in weave.ready():
            other = copy.deepcopy(weave)
            other.step(number)
            waiting.append((other, [*weaving, number]))
    return [(end, weaving) for end, (_, weaving) in sorted(found.items(), key=lambda one: one[1])]


def random_task(chance, names, most, words=()):
    """A task of at most so many deeds."""
    told = []
    for _ in range(chance.randint(0, most)):
        word = chance.choice(words or ["gain", "gain", "gain", "release", "release", "use", "bell", "bell", "tick", "look",
                                       "sleep", "sleep", "sleep", "rise"])
        if word == "tick":
            told.append((word, chance.choice([1, 2, 5])))
        else:
            told.append((word,) if word in ("look", "sleep", "rise") else (word, chance.choice(names)))
    return told


def sound_task(chance, names, most):
    """A sound task of at most so many deeds."""
    told, held = [], []
    while len(told) + len(held) + 2 <= most and chance.random() < 0.9:
        word = chance.choice(["gain", "gain", "release", "use"])
        if word == "gain":
            held.append(chance.choice(names))
            told.append((word, held[-1]))
        elif held:
            name = chance.choice(held)
            told.append((word, name))
            if word == "release":
                held.remove(name)
    chance.shuffle(held)
    return [*told, *[("release", name) for name in held]]
