"""Flows along ties from a letter to its contrary [14]."""

from newletters.letters import contrary, letters_of, rank_of
from newletters.ties import ties_between


# What already goes the other way may be taken back, so it gives room too: of each pair, gone has the one way what
# the other way has with its sign turned.
def room_left(ties, gone, one, other):
    return ties_between(ties, one, other) - gone.get((one, other), 0)


# A shortest way with room from the letter to its contrary, or None. Shortest ones, so that few are needed however
# many ties there are.
def way_with_room(n, ties, gone, letter):
    ways = {letter: (letter,)}
    reached = [letter]
    done = 0
    while done < len(reached):
        here = reached[done]
        for other in letters_of(n):
            if other not in ways and room_left(ties, gone, here, other) > 0:
                ways[other] = ways[here] + (other,)
                reached.append(other)
        done += 1
    return ways.get(contrary(letter))


def send_along(ties, gone, way):
    pairs = list(zip(way, way[1:]))
    many = min([room_left(ties, gone, one, other) for one, other in pairs])
    for one, other in pairs:
        gone[(one, other)] = gone.get((one, other), 0) + many
        gone[(other, one)] = -gone[(one, other)]


# Where no way has room, all ties that leave the side of the letters still reached are full: more can't go.
def flow_for(n, ties, letter):
    gone = {}
    way = way_with_room(n, ties, gone, letter)
    while way is not None:
        send_along(ties, gone, way)
        way = way_with_room(n, ties, gone, letter)
    flow = []
    for one in letters_of(n):
        for other in letters_of(n):
            many = gone.get((one, other), 0)
            if many > 0:
                flow.append((one, other, many))
    return tuple(flow)


# True is no whole number, though Python counts it as 1.
def is_within_ties(ties, part):
    many = part[2]
    return not isinstance(many, bool) and 1 <= many <= ties_between(ties, part[0], part[1])


def is_rising_one_way(flow):
    pairs = [(rank_of(part[0]), rank_of(part[1])) for part in flow]
    is_rising = all([one < other for one, other in zip(pairs, pairs[1:])])
    return is_rising and not any([(other, one) in pairs for one, other in pairs])


# At each letter what goes less what comes.
def worths_at_letters(n, flow):
    worths = dict([(letter, 0) for letter in letters_of(n)])
    for one, other, many in flow:
        worths[one] += many
        worths[other] -= many
    return worths


def flow_worth(n, ties, letter, flow):
    if not all([is_within_ties(ties, part) for part in flow]) or not is_rising_one_way(flow):
        return None
    worths = worths_at_letters(n, flow)
    ends = (letter, contrary(letter))
    if any([worths[other] != 0 for other in letters_of(n) if other not in ends]):
        return None
    return worths[letter] if worths[letter] >= 0 else None
