"""Webs of words [10]."""

from newletters.letters import contrary, first_letters, letters_of
from newletters.words import joined, laid_out, turned_back


# A web being woven. Places that turn out to be one are not taken out, as ways may name any of them: they get one
# head in common, and its ways are the ways of them all.
# With each word that is laid goes a word that tells it. Every way is told so that along a round from 0 what is
# told, joined, says of which words laid the round is joined; from a place to its head it is told by its turn.
class Weave:
    def __init__(self):
        self.heads = [0]
        self.turns = [""]
        self.ways = [{}]
        self.alike = []

    # The head of a place to which something leads, and how the whole is told up to there.
    def end_of(self, place, told):
        while self.heads[place] != place:
            above = self.heads[place]
            self.turns[place] = joined(self.turns[place], self.turns[above])
            self.heads[place] = self.heads[above]
            told = joined(told, self.turns[place])
            place = self.heads[place]
        return (place, told)

    def head_of(self, place):
        return self.end_of(place, "")[0]

    def goal_of(self, head, letter):
        way = self.ways[head].get(letter)
        return None if way is None else self.head_of(way[0])

    def new_place(self):
        place = len(self.heads)
        self.heads.append(place)
        self.turns.append("")
        self.ways.append({})
        return place

    # By one letter one goes to one place: a second goal is the same place as the first, and from the one to the
    # other leads what leads back by the second way and on by the first.
    def lay_way(self, place, letter, goal, told):
        known = self.ways[place].setdefault(letter, (goal, told))
        if known != (goal, told):
            self.alike.append((goal, joined(turned_back(told), known[1]), known[0]))

    def lay_word(self, word, told):
        here = 0
        for number, letter in enumerate(word):
            is_last = number == len(word) - 1
            goal = 0 if is_last else self.new_place()
            part = told if is_last else ""
            self.lay_way(here, letter, goal, part)
            self.lay_way(goal, contrary(letter), here, turned_back(part))
            here = goal

    def put_under(self, head, above, turn):
        self.heads[head] = above
        self.turns[head] = turn
        for letter, way in list(self.ways[head].items()):
            self.lay_way(above, letter, way[0], joined(turned_back(turn), way[1]))

    # The first found goes first: so places fall together from the begin on, while what tells their ways is short.
    def fold(self):
        while len(self.alike) > 0:
            pair = self.alike.pop(0)
            one = self.end_of(pair[0], "")
            other = self.end_of(pair[2], pair[1])
            if one[0] != other[0]:
                self.put_under(one[0], other[0], joined(turned_back(one[1]), other[1]))

    # How the round by this letter from 0 to 0 again is told.
    def round_told(self, letter):
        begin = self.end_of(0, "")
        way = self.ways[begin[0]][letter]
        end = self.end_of(way[0], way[1])
        return laid_out(begin[1] + end[1] + turned_back(begin[1]))


# The keys stand in the order of their numbers.
def numbers_of_heads(n, weave):
    heads = [weave.head_of(0)]
    numbers = {heads[0]: 0}
    done = 0
    while done < len(heads):
        for letter in letters_of(n):
            goal = weave.goal_of(heads[done], letter)
            if goal is not None and goal not in numbers:
                numbers[goal] = len(heads)
                heads.append(goal)
        done += 1
    return numbers


def place_told(n, weave, numbers, head):
    goals = [weave.goal_of(head, letter) for letter in first_letters(n)]
    return tuple([None if goal is None else numbers[goal] for goal in goals])


# No place need be taken off at the end: each way was laid for a plain word, which still comes by it when all is
# folded.
def web_of(n, words):
    weave = Weave()
    for word in words:
        weave.lay_word(word, "")
    weave.fold()
    numbers = numbers_of_heads(n, weave)
    return tuple([place_told(n, weave, numbers, head) for head in numbers])


def ways_both_ways(web):
    ways = {}
    for place, goals in enumerate(web):
        for letter, goal in zip(first_letters(len(goals)), goals):
            if goal is not None:
                ways[(place, letter)] = goal
                ways[(goal, contrary(letter))] = place
    return ways


def is_read(web, word):
    ways = ways_both_ways(web)
    here = 0
    for letter in word:
        here = ways.get((here, letter))
        if here is None:
            return False
    return here == 0
