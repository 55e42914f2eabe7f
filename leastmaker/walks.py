"""Programs worked all over a region at once: what they tell in each case.

A walk is (todo, ready): what is to be worked and what is worked already, both as pairs (first, rest) or
None, so that a walk goes on in two ways from where it stands without being copied. To be worked are
programs and what is behind their parts: ("add", C), ("meet", word), ("pick", yes, no). Worked are ends as of
trees: (i, c), that is x of i and c, or a truth. Each step tells (question, todo, ready), the question None
where the region leaves none open.
"""

from leastmaker.regions import answer_at, answer_in, narrowed

YES = ("yes",)
NO = ("no",)


def step_in(region, task, rest, ready):
    fact = region[1][task[1]]
    if fact is None:
        return ("truth", task[1]), rest, ready
    return None, rest, (fact, ready)


def step_num(region, task, rest, ready):
    return None, rest, ((-1, task[1]), ready)


def step_yes(region, task, rest, ready):
    return None, rest, (True, ready)


def step_no(region, task, rest, ready):
    return None, rest, (False, ready)


def step_plus(region, task, rest, ready):
    return None, (task[2], (("add", task[1]), rest)), ready


def step_add(region, task, rest, ready):
    (i, c), below = ready
    return None, rest, ((i, c + task[1]), below)


def step_two(region, task, rest, ready):
    return None, (task[1], (task[2], (("meet", task[0]), rest))), ready


def step_meet(region, task, rest, ready):
    second, (first, below) = ready
    question = ("row", first[0], second[0], second[1] - first[1])
    answer = answer_in(region, question)
    if answer is None:
        return question, rest, ready
    return None, rest, (met(task[1], answer, first, second), below)


def met(word, answer, first, second):
    """What least, most or atmost makes of two, told whether the first is at most the second."""
    if word == "atmost":
        return answer
    if word == "least":
        return first if answer else second
    return second if answer else first


def step_not(region, task, rest, ready):
    return None, (task[1], (("pick", NO, YES), rest)), ready


def step_both(region, task, rest, ready):
    return None, (task[1], (("pick", task[2], NO), rest)), ready


def step_either(region, task, rest, ready):
    return None, (task[1], (("pick", YES, task[2]), rest)), ready


def step_if(region, task, rest, ready):
    return None, (task[1], (("pick", task[2], task[3]), rest)), ready


def step_pick(region, task, rest, ready):
    truth, below = ready
    return None, (task[1] if truth else task[2], rest), below


STEPS = {
    "in": step_in,
    "num": step_num,
    "yes": step_yes,
    "no": step_no,
    "plus": step_plus,
    "add": step_add,
    "least": step_two,
    "most": step_two,
    "atmost": step_two,
    "meet": step_meet,
    "not": step_not,
    "both": step_both,
    "either": step_either,
    "if": step_if,
    "pick": step_pick,
}


def walked(region, todo, ready):
    """(front, todo, ready): the first open question, and the walk as it stands ahead of it, or ("end", end)."""
    while todo is not None:
        task, rest = todo
        step = STEPS[task[0]]
        question, onward, worked = step(region, task, rest, ready)
        if question is not None:
            return question, todo, ready
        todo, ready = onward, worked
    return ("end", ready[0]), todo, ready


def cases_of(program, region):
    """For each knot of a tree of the program over the region, in text order, its front and its own region."""
    waiting = [(region, (program, None), None)]
    while waiting:
        here, todo, ready = waiting.pop()
        front, todo, ready = walked(here, todo, ready)
        yield (front, here)
        if front[0] != "end":
            waiting.append((narrowed(here, front, False), todo, ready))
            waiting.append((narrowed(here, front, True), todo, ready))


def case_at(program, region, inputs):
    """Those of the region for which all questions of the program have the answers that they have at inputs."""
    here = region
    front, todo, ready = walked(here, (program, None), None)
    while front[0] != "end":
        here = narrowed(here, front, answer_at(front, inputs))
        front, todo, ready = walked(here, todo, ready)
    return here
