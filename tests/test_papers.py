import itertools
import unittest

import helping
from newletters.errors import NoPaper
from newletters.papers import paper_for, paper_holds
from newletters.shortening import made_short

# Of the ring abAB each letter counts 2, and each is tied once to each but its contrary.
CROSS = ("abAB",)
CROSS_FLOWS = (
    (("a", "b", 1), ("a", "B", 1), ("b", "A", 1), ("B", "A", 1)),
    (("a", "B", 1), ("A", "B", 1), ("b", "a", 1), ("b", "A", 1)),
)


def shortening_changes(n, rings):
    """All changes that make the row shorter, whatever their letter."""
    for letter in helping.letters_upto(n):
        for side in helping.sides_by_the_book(n, letter):
            behind = helping.row_by_the_book(helping.change_by_the_book(n, (letter, side)), rings)
            if len("".join(behind)) < len("".join(rings)):
                yield (letter, side), behind


def made_short_otherwise(source, n, rings):
    """Changes that make the row shorter, any ones, until there are none."""
    changes = []
    while True:
        found = list(shortening_changes(n, rings))
        if not found:
            return tuple(changes), rings
        change, rings = source.choice(found)
        changes.append(change)


def with_round(source, n, ties, flow):
    """The flow with a round of one more by chance, as far as ties last; else the flow."""
    net = {}
    for one, other, many in flow:
        net[(one, other)], net[(other, one)] = many, -many
    way = source.sample(helping.letters_upto(n), source.randint(3, 2 * n))
    steps = list(zip(way, way[1:] + way[:1]))
    if any(net.get(step, 0) >= helping.capacity(ties, *step) for step in steps):
        return flow
    for one, other in steps:
        net[(one, other)] = net.get((one, other), 0) + 1
        net[(other, one)] = -net[(one, other)]
    return helping.sorted_flow((one, other, many) for (one, other), many in net.items() if many > 0)


class PaperFor(unittest.TestCase):
    def test_some(self):
        self.assertEqual(paper_for(1, ()), ((), ((),)))
        self.assertEqual(paper_for(3, ("", "")), ((), ((), (), ())))
        self.assertEqual(paper_for(1, ("a",)), ((), ((("a", "A", 1),),)))
        self.assertEqual(paper_for(1, ("AAA",)), ((), ((("a", "A", 3),),)))
        self.assertEqual(paper_for(2, ("ab",)), ((("a", ("a", "B")),), ((), (("b", "B", 1),))))
        self.assertEqual(paper_for(2, ("aab",)), ((("a", ("a", "B")),) * 2, ((), (("b", "B", 1),))))
        self.assertEqual(paper_for(2, CROSS), ((), CROSS_FLOWS))

    def test_holds_with_the_changes_of_made_short(self):
        source = helping.chance(121)
        for again in range(150):
            n = source.randint(1, 4)
            rings = helping.row_by_chance(source, n)
            paper = paper_for(n, rings)
            self.assertEqual([type(part) for part in (paper,) + paper], [tuple] * 3)
            self.assertEqual(paper[0], tuple(made_short(n, rings)[0]))
            self.assertEqual(len(paper[1]), n)
            self.assertIsNone(helping.fault_by_the_book(n, rings, paper), rings)
            self.assertIs(paper_holds(n, rings, paper), True)
            self.assertEqual(paper_for(n, rings), paper)


class PaperHolds(unittest.TestCase):
    def test_other_changes_by_hand(self):
        flows = ((("a", "A", 1),), ())
        self.assertIs(paper_holds(2, ("ab",), ((("b", ("A", "b")),), flows)), True)
        self.assertIs(paper_holds(2, ("ab",), ((("B", ("a", "B")),), flows)), True)
        self.assertIs(paper_holds(2, ("ab",), ((("A", ("A", "b")),), ((), (("b", "B", 1),)))), True)
        # The letter c stands nowhere and may lie on either side.
        for side in (("A", "b"), ("A", "b", "c"), ("A", "b", "C"), ("A", "b", "c", "C")):
            self.assertIs(paper_holds(3, ("ab",), ((("b", side),), flows + ((),))), True)

    def test_other_flows_by_hand(self):
        # Ties between a and each other letter, so that rounds are left beside what must go.
        rings = ("a", "b", "abAB", "aabb")
        ties = helping.ties_by_the_book(rings)
        self.assertEqual(ties, {("a", "A"): 2, ("b", "B"): 2, ("a", "B"): 2, ("a", "b"): 1, ("A", "b"): 2,
                                ("A", "B"): 1})
        one = (("a", "A", 2), ("a", "b", 1), ("a", "B", 2), ("b", "A", 2), ("B", "A", 1), ("B", "b", 1))
        two = (("a", "B", 2), ("A", "a", 1), ("A", "B", 1), ("b", "a", 1), ("b", "A", 2), ("b", "B", 2))
        three = (("a", "B", 1), ("A", "B", 1), ("b", "a", 1), ("b", "A", 1), ("b", "B", 2))
        self.assertIs(paper_holds(2, rings, ((), (one, two))), True)
        self.assertEqual(helping.refusal_of(self, NoPaper, paper_holds, 2, rings, ((), (one, three))).at, 1)
        self.assertEqual(helping.refusal_of(self, NoPaper, paper_holds, 2, rings, ((), (three, two))).at, 0)

    def test_a_letter_that_stands_nowhere(self):
        self.assertIs(paper_holds(2, ("b",), ((), ((), (("b", "B", 1),)))), True)
        self.assertEqual(helping.refusal_of(self, NoPaper, paper_holds, 2, ("b",), ((), ((("b", "B", 1),), ()))).at, 0)
        # Rounds along others' ties are worth 0 too.
        loop = (("a", "b", 1), ("b", "A", 1), ("A", "B", 1), ("B", "a", 1))
        loop = helping.sorted_flow(loop)
        self.assertIs(paper_holds(3, CROSS, ((), CROSS_FLOWS + (loop,))), True)
        self.assertIs(paper_holds(3, CROSS, ((), CROSS_FLOWS + ((),))), True)

    def test_others_papers_by_chance(self):
        source = helping.chance(122)
        unlike = 0
        for again in range(100):
            n = source.choice((1, 2, 2, 3, 3, 4))
            rings = helping.row_by_chance(source, n, 12)
            changes, row = made_short_otherwise(source, n, rings)
            flows = paper_for(n, row)[1]
            ties = helping.ties_by_the_book(row)
            if n > 1:
                flows = tuple(with_round(source, n, ties, with_round(source, n, ties, flow)) for flow in flows)
            paper = (changes, flows)
            self.assertIsNone(helping.fault_by_the_book(n, rings, paper))
            self.assertIs(paper_holds(n, rings, paper), True, (rings, paper))
            told = paper_for(n, rings)
            unlike += (told[0] != changes) + (paper_for(n, row)[1] != flows)
        self.assertGreater(unlike, 20)


class NoPapers(unittest.TestCase):
    def refused(self, n, rings, paper, at):
        refusal = helping.refusal_of(self, NoPaper, paper_holds, n, rings, paper)
        self.assertEqual(refusal.at, at, (rings, paper))
        self.assertEqual(helping.fault_by_the_book(n, rings, paper), at)

    def test_a_change_that_is_none(self):
        flows = ((), (("b", "B", 1),))
        good = ("a", ("a", "B"))
        self.assertIs(paper_holds(2, ("aab",), ((good, good), flows)), True)
        for bad in (("c", ("c",)), ("", ("a", "B")), ("ab", ("a", "B")), ("a", ()), ("a", ("B",)), ("a", ("B", "a")),
                    ("a", ("a", "A", "B")), ("a", ("a", "B", "B")), ("a", ("a", "B", "c")), ("a", ("a", "B", "C"))):
            self.refused(2, ("aab",), ((bad, good), flows), 0)
            self.refused(2, ("aab",), ((good, bad), flows), 1)
            self.refused(2, ("aab",), ((good, good, bad), flows), 2)
            self.refused(2, ("aab",), ((good, bad, bad), flows), 1)

    def test_a_change_that_does_not_make_it_shorter(self):
        flows = ((), (("b", "B", 1),))
        good = ("a", ("a", "B"))
        # The first two keep the length, the others make the row longer.
        for bad in (("a", ("a",)), ("a", ("a", "b", "B")), ("a", ("a", "b")), ("b", ("a", "b"))):
            self.refused(2, ("aab",), ((bad, good), flows), 0)
            self.refused(2, ("aab",), ((good, bad), flows), 1)
            self.refused(2, ("aab",), ((bad, bad), flows), 0)
            self.refused(2, ("aab",), ((good, bad, good), flows), 1)
        # Made shorter once more than can be.
        self.refused(2, ("aab",), ((good, good, good), flows), 2)
        self.refused(2, ("",), ((good,), ((), ())), 0)
        self.refused(2, (), ((good,), ((), ())), 0)

    def test_the_whole_row_must_be_shorter(self):
        # One ring gets shorter and another one longer.
        self.refused(2, ("ab", "b"), ((("a", ("a", "B")),), ((), ())), 0)
        self.refused(2, ("b", "ab"), ((("a", ("a", "B")),), ((), ())), 0)

    def test_no_change_makes_a_shortest_row_shorter(self):
        for letter in "aAbB":
            for side in helping.sides_by_the_book(2, letter):
                self.refused(2, CROSS, (((letter, side),), CROSS_FLOWS), 0)

    def test_flows_not_as_many_as_letters(self):
        for flows in ((), CROSS_FLOWS[:1], CROSS_FLOWS + ((),), CROSS_FLOWS + CROSS_FLOWS):
            self.refused(2, CROSS, ((), flows), 0)
        good = ("a", ("a", "B"))
        flow = (("b", "B", 1),)
        for flows in ((), ((),), (flow,), ((), flow, ()), ((), flow, flow)):
            self.refused(2, ("aab",), ((good, good), flows), 2)
        for n in range(1, 5):
            for many in range(7):
                if many != n:
                    self.refused(n, (), ((), ((),) * many), 0)

    def test_a_flow_that_is_not_so(self):
        first, second = CROSS_FLOWS
        less = (("a", "b", 1), ("b", "A", 1))
        none = (("a", "b", 1),)
        for bad in ((), less, none, first[::-1], second, first + first[:1], (("a", "A", 2),),
                    (("a", "b", 2), ("b", "A", 2))):
            self.refused(2, CROSS, ((), (bad, second)), 0)
            self.refused(2, CROSS, ((), (bad, bad)), 0)
        less = (("a", "B", 1), ("b", "a", 1))
        none = (("b", "A", 1),)
        for bad in ((), less, none, second[::-1], first, second + second[:1], (("b", "B", 2),),
                    (("a", "B", 2), ("b", "a", 2))):
            self.refused(2, CROSS, ((), (first, bad)), 1)

    def test_so_many_more_than_changes(self):
        good = ("a", ("a", "B"))
        flow = (("b", "B", 1),)
        self.refused(2, ("aab",), ((good, good), (flow, flow)), 2)
        self.refused(2, ("aab",), ((good, good), ((), ())), 3)
        self.refused(2, ("aab",), ((good, good), ((), (("B", "b", 1),))), 3)
        self.refused(4, ("aab",), ((good, good), ((), flow, flow, flow)), 4)
        self.refused(4, ("aab",), ((good, good), ((), flow, (), flow)), 5)

    def test_flows_are_looked_at_in_the_row_at_the_end(self):
        good = ("a", ("a", "B"))
        # One change too few: what flows in the last row doesn't in this one.
        self.refused(2, ("aab",), ((good,), ((), (("b", "B", 1),))), 1)
        self.refused(2, ("aab",), ((), ((("a", "A", 1),), (("b", "A", 1), ("a", "B", 1)))), 0)

    def test_several_faults_the_first_told(self):
        good, bad, worse = ("a", ("a", "B")), ("a", ("a",)), ("c", ("c",))
        self.refused(2, ("aab",), ((good, worse), ()), 1)
        self.refused(2, ("aab",), ((good, bad), ((), ())), 1)
        self.refused(2, ("aab",), ((worse, bad), ()), 0)
        self.refused(2, ("aab",), ((bad, worse), ((), (), ())), 0)
        self.refused(2, ("aab",), ((good, good), ((("a", "b", 1),),)), 2)
        self.refused(2, CROSS, ((), ((), ())), 0)

    def test_spoilt_papers_by_chance(self):
        source = helping.chance(123)
        told = set()
        for again in range(250):
            n = source.randint(1, 4)
            rings = helping.row_by_chance(source, n)
            changes, flows = (list(part) for part in paper_for(n, rings))
            for spoiling in range(source.randint(1, 2)):
                part = source.choice((changes, flows))
                done = source.randrange(4)
                if done == 0:
                    part.insert(source.randint(0, len(part)), helping.change_by_chance(source, n)
                                if part is changes else ())
                elif part and done == 1:
                    part.pop(source.randrange(len(part)))
                elif part and done == 2:
                    source.shuffle(part)
                elif part is flows and flows:
                    place = source.randrange(len(flows))
                    flows[place] = flows[place][1:]
            paper = (tuple(changes), tuple(flows))
            at = helping.fault_by_the_book(n, rings, paper)
            told.add(at)
            if at is None:
                self.assertIs(paper_holds(n, rings, paper), True, (rings, paper))
            else:
                self.refused(n, rings, paper, at)
        self.assertLessEqual({None, 0, 1, 2, 3, 4, 5, 6}, told)

    def test_asked_again_behind_another_one(self):
        papers = [(2, ("ab",), paper_for(2, ("ab",))), (2, CROSS, paper_for(2, CROSS)), (2, CROSS, ((), ((), ()))),
                  (2, ("aab",), paper_for(2, ("ab",))), (3, ("ab",), paper_for(3, ("ab",)))]
        for one, other in itertools.permutations(papers, 2):
            for question in (one, other, one):
                at = helping.fault_by_the_book(*question)
                if at is None:
                    self.assertIs(paper_holds(*question), True)
                else:
                    self.refused(*question, at)


if __name__ == "__main__":
    unittest.main()
