"""Roads and papers as texts, written and read [29]."""

from newletters.changes import change_fault
from newletters.errors import NoText
from newletters.letters import contrary, first_letters, letters_of
from newletters.roads import CHANGE, EXCHANGE, change_step

COLON = ":"

FLOW = "flow"

FIGURES = "0123456789"

MOST_FIGURES = 6


def show_step(step):
    if step[0] == EXCHANGE:
        return " ".join((EXCHANGE,) + step[1])
    return " ".join((CHANGE, step[1], COLON) + step[2])


def show_flow(flow):
    words = [FLOW, COLON]
    for one, other, many in flow:
        words.extend([one, other, str(many)])
    return " ".join(words)


def show_road(road):
    return "\n".join([show_step(step) for step in road])


def show_paper(paper):
    changes = [show_step(change_step(change)) for change in paper[0]]
    flows = [show_flow(flow) for flow in paper[1]]
    return "\n".join(changes + flows)


# The change that the words of a row tell, or None; so with what stands below.
def read_change(n, words):
    if words[0] != CHANGE or words[2:3] != [COLON]:
        return None
    change = (words[1], tuple(words[3:]))
    return change if change_fault(n, change) is None else None


# As many letters as there are pairs, and none of each pair missing: so there is just one of each.
def is_exchange(n, letters):
    return len(letters) == n and all([other in letters or contrary(other) in letters for other in first_letters(n)])


def read_step(n, words):
    if words[0] == EXCHANGE:
        letters = tuple(words[1:])
        return (EXCHANGE, letters) if is_exchange(n, letters) else None
    change = read_change(n, words)
    return None if change is None else change_step(change)


def is_number(shown):
    return 1 <= len(shown) <= MOST_FIGURES and shown[0] != "0" and all([sign in FIGURES for sign in shown])


def read_flow_part(n, words):
    letters = letters_of(n)
    if words[0] not in letters or words[1] not in letters or not is_number(words[2]):
        return None
    return (words[0], words[1], int(words[2]))


def read_flow(n, words):
    if words[:2] != [FLOW, COLON] or len(words) % 3 != 2:
        return None
    parts = [read_flow_part(n, words[place:place + 3]) for place in range(2, len(words), 3)]
    return None if None in parts else tuple(parts)


# For each row its words; a blank too many makes a word without signs, which is none in any row.
def words_in_rows(text):
    return [] if text == "" else [row.split(" ") for row in text.split("\n")]


def read_road(n, text):
    road = []
    for number, words in enumerate(words_in_rows(text)):
        step = read_step(n, words)
        if step is None:
            raise NoText(number)
        road.append(step)
    return tuple(road)


def read_paper(n, text):
    changes = []
    flows = []
    for number, words in enumerate(words_in_rows(text)):
        change = read_change(n, words) if len(flows) == 0 else None
        flow = read_flow(n, words)
        if change is not None:
            changes.append(change)
        elif flow is not None:
            flows.append(flow)
        else:
            raise NoText(number)
    return (tuple(changes), tuple(flows))
