"""Webs of words [10]."""

from newletters.letters import contrary, first_letters, letters_of


# A web being woven. Places that turn out to be one are not taken out, as ways may name any of them: they get one
# head in common, and its ways are the ways of them all.
class Weave:
    def __init__(self):
        self.heads = [0]
        self.ways = [{}]
        self.alike = []

    def head_of(self, place):
        head = place
        while self.heads[head] != head:
            self.heads[head] = self.heads[self.heads[head]]
            head = self.heads[head]
        return head

    def goal_of(self, place, letter):
        goal = self.ways[self.head_of(place)].get(letter)
        return None if goal is None else self.head_of(goal)

    def new_place(self):
        place = len(self.heads)
        self.heads.append(place)
        self.ways.append({})
        return place

    # By one letter one goes to one place: a second goal is the same place as the first.
    def lay_way(self, place, letter, goal):
        known = self.ways[place].setdefault(letter, goal)
        if known != goal:
            self.alike.append((known, goal))

    def lay_word(self, word):
        here = 0
        for number, letter in enumerate(word):
            goal = 0 if number == len(word) - 1 else self.new_place()
            self.lay_way(here, letter, goal)
            self.lay_way(goal, contrary(letter), here)
            here = goal

    def fold(self):
        while len(self.alike) > 0:
            pair = self.alike.pop()
            one = self.head_of(pair[0])
            other = self.head_of(pair[1])
            if one != other:
                self.heads[other] = one
                for letter, goal in list(self.ways[other].items()):
                    self.lay_way(one, letter, goal)


# The keys stand in the order of their numbers.
def numbers_of_heads(n, weave):
    heads = [weave.head_of(0)]
    numbers = {heads[0]: 0}
    done = 0
    while done < len(heads):
        for letter in letters_of(n):
            goal = weave.goal_of(heads[done], letter)
            if goal is not None and goal not in numbers:
                numbers[goal] = len(heads)
                heads.append(goal)
        done += 1
    return numbers


def place_told(n, weave, numbers, head):
    goals = [weave.goal_of(head, letter) for letter in first_letters(n)]
    return tuple([None if goal is None else numbers[goal] for goal in goals])


# No place need be taken off at the end: each way was laid for a plain word, which still comes by it when all is
# folded.
def web_of(n, words):
    weave = Weave()
    for word in words:
        weave.lay_word(word)
    weave.fold()
    numbers = numbers_of_heads(n, weave)
    return tuple([place_told(n, weave, numbers, head) for head in numbers])


def ways_both_ways(web):
    ways = {}
    for place, goals in enumerate(web):
        for letter, goal in zip(first_letters(len(goals)), goals):
            if goal is not None:
                ways[(place, letter)] = goal
                ways[(goal, contrary(letter))] = place
    return ways


def is_read(web, word):
    ways = ways_both_ways(web)
    here = 0
    for letter in word:
        here = ways.get((here, letter))
        if here is None:
            return False
    return here == 0
