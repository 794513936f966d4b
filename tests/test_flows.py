import unittest

import helping
from newletters.flows import flow_for, flow_worth
from newletters.sides import least_side, ties_leaving


def net_flow(source, n, ties, letter):
    """Ways from the letter to its contrary and rounds, by chance, laid one over the other as far as ties last."""
    net = {}
    for again in range(source.randint(0, 6)):
        others = [other for other in helping.letters_upto(n) if other.lower() != letter.lower()]
        way = source.sample(others, source.randint(0, len(others)))
        if source.random() < 0.7:
            way = [letter] + way + [letter.swapcase()]
        else:
            way = source.sample(helping.letters_upto(n), source.randint(2, 2 * n))
            way = way + way[:1]
        steps = list(zip(way, way[1:]))
        if steps and all(net.get(step, 0) < helping.capacity(ties, *step) for step in steps):
            for one, other in steps:
                net[(one, other)] = net.get((one, other), 0) + 1
                net[(other, one)] = -net[(one, other)]
    return helping.sorted_flow((one, other, many) for (one, other), many in net.items() if many > 0)


def spoilt(source, n, flow):
    """The flow with one thing done to it that may or may not keep it a flow."""
    parts = [list(part) for part in flow]
    place = source.randrange(len(parts)) if parts else None
    done = source.randrange(7)
    if place is None or done == 0:
        parts.append([source.choice(helping.letters_upto(n)), source.choice(helping.letters_upto(n)), 1])
        return helping.sorted_flow(tuple(part) for part in parts)
    if done == 1:
        parts[place][2] += source.choice((-1, 1))
    elif done == 2:
        parts[place][2] = source.choice((0, -parts[place][2]))
    elif done == 3:
        parts.append(parts[place])
    elif done == 4:
        parts.pop(place)
    elif done == 5:
        source.shuffle(parts)
    else:
        parts[place][0], parts[place][1] = parts[place][1], parts[place][0]
    return tuple(tuple(part) for part in parts)


class FlowFor(unittest.TestCase):
    def look(self, n, ties, letter):
        kept = dict(ties)
        flow = flow_for(n, ties, letter)
        self.assertEqual(ties, kept)
        self.assertIs(type(flow), tuple)
        for part in flow:
            self.assertIs(type(part), tuple)
            self.assertIs(type(part[2]), int)
        fewest = min(ties_leaving(ties, side) for side in helping.sides_by_the_book(n, letter))
        self.assertEqual(helping.worth_by_the_book(n, ties, letter, flow), fewest, (ties, letter, flow))
        self.assertEqual(fewest, ties_leaving(ties, least_side(n, ties, letter)))
        self.assertEqual(flow_worth(n, ties, letter, flow), fewest)
        self.assertEqual(flow_for(n, ties, letter), flow)

    def test_of_no_ties(self):
        for n in range(1, 5):
            for letter in helping.letters_upto(n):
                self.assertEqual(flow_for(n, {}, letter), ())

    def test_where_just_one_is_of_the_greatest_worth(self):
        self.assertEqual(flow_for(1, {("a", "A"): 5}, "a"), (("a", "A", 5),))
        self.assertEqual(flow_for(1, {("a", "A"): 5}, "A"), (("A", "a", 5),))
        ties = {("a", "b"): 3, ("A", "b"): 2}
        self.assertEqual(flow_for(2, ties, "a"), (("a", "b", 2), ("b", "A", 2)))
        self.assertEqual(flow_for(2, ties, "A"), (("A", "b", 2), ("b", "a", 2)))
        self.assertEqual(flow_for(2, ties, "b"), ())
        self.assertEqual(flow_for(2, {("a", "b"): 3, ("b", "B"): 1, ("A", "B"): 3}, "a"),
                         (("a", "b", 1), ("b", "B", 1), ("B", "A", 1)))

    def test_where_a_first_way_must_be_taken_back(self):
        # The shortest way, a b c A, uses up what two longer ones need.
        ties = {("a", "b"): 1, ("b", "c"): 1, ("A", "c"): 1, ("b", "d"): 1, ("d", "D"): 1, ("A", "D"): 1,
                ("a", "B"): 1, ("B", "C"): 1, ("c", "C"): 1}
        for letter in helping.ALL_LETTERS:
            self.look(4, ties, letter)
        self.assertEqual(flow_worth(4, ties, "a", flow_for(4, ties, "a")), 2)

    def test_each_letter_of_ties_of_rings_and_of_any_others(self):
        for n, ties in helping.ties_cases(81, 100):
            for letter in helping.letters_upto(n):
                self.look(n, ties, letter)

    def test_very_many_ties(self):
        ties = {("a", "b"): 10 ** 6, ("a", "B"): 10 ** 6, ("b", "B"): 1, ("A", "b"): 10 ** 6, ("A", "B"): 10 ** 6}
        for letter in "aAbB":
            self.look(2, ties, letter)

    def test_asked_again_when_the_dict_was_changed(self):
        ties = {("a", "b"): 3, ("A", "b"): 2}
        self.assertEqual(flow_for(2, ties, "a"), (("a", "b", 2), ("b", "A", 2)))
        ties[("A", "b")] = 1
        self.assertEqual(flow_for(2, ties, "a"), (("a", "b", 1), ("b", "A", 1)))
        ties[("A", "b")] = 2
        self.assertEqual(flow_for(2, ties, "a"), (("a", "b", 2), ("b", "A", 2)))


# The letters from a to C are tied each to each, D to a few of them, d to none.
TIES = {("a", "A"): 2, ("a", "b"): 3, ("a", "B"): 1, ("A", "b"): 3, ("A", "B"): 2, ("b", "B"): 2, ("a", "c"): 4,
        ("A", "c"): 1, ("b", "c"): 2, ("B", "c"): 2, ("a", "C"): 1, ("A", "C"): 1, ("b", "C"): 1, ("B", "C"): 1,
        ("c", "C"): 1, ("a", "D"): 1, ("A", "D"): 1, ("c", "D"): 1}


class FlowWorth(unittest.TestCase):
    def worth(self, flow, letter="a"):
        kept = dict(TIES)
        told = flow_worth(4, TIES, letter, flow)
        self.assertEqual(TIES, kept)
        self.assertTrue(told is None or type(told) is int)
        self.assertEqual(told, helping.worth_by_the_book(4, TIES, letter, flow))
        return told

    def test_without_tuples(self):
        for n in range(1, 5):
            for letter in helping.letters_upto(n):
                for ties in ({}, {("a", "A"): 4}):
                    told = flow_worth(n, ties, letter, ())
                    self.assertIs(type(told), int)
                    self.assertEqual(told, 0)

    def test_some(self):
        self.assertEqual(self.worth((("a", "A", 1),)), 1)
        self.assertEqual(self.worth((("a", "A", 2),)), 2)
        self.assertEqual(self.worth((("a", "b", 3), ("b", "A", 3))), 3)
        self.assertEqual(self.worth((("a", "A", 1), ("a", "b", 2), ("b", "A", 1), ("b", "c", 1), ("c", "A", 1))), 3)
        self.assertEqual(self.worth((("A", "b", 3), ("b", "a", 3)), "A"), 3)
        self.assertEqual(self.worth((("b", "B", 2),), "b"), 2)
        self.assertEqual(self.worth((("B", "b", 2),), "B"), 2)
        self.assertEqual(self.worth((("c", "C", 1),), "c"), 1)
        self.assertEqual(self.worth((("D", "c", 1),), "D"), None)
        self.assertEqual(self.worth((), "d"), 0)

    def test_for_the_contrary_all_the_other_way(self):
        self.assertIsNone(self.worth((("A", "a", 1),)))
        self.assertEqual(self.worth((("A", "a", 1),), "A"), 1)
        self.assertIsNone(self.worth((("a", "A", 1),), "A"))
        self.assertIsNone(self.worth((("A", "b", 3), ("b", "a", 3)), "a"))
        self.assertIsNone(self.worth((("a", "A", 1),), "b"))

    def test_a_tuple_twice(self):
        self.assertIsNone(self.worth((("a", "A", 1), ("a", "A", 1))))
        self.assertIsNone(self.worth((("a", "b", 1), ("a", "b", 1), ("b", "A", 2))))
        self.assertIsNone(self.worth((("a", "b", 1), ("a", "b", 2), ("b", "A", 3))))

    def test_a_pair_once_each_way(self):
        self.assertIsNone(self.worth((("a", "A", 2), ("A", "a", 1))))
        self.assertIsNone(self.worth((("b", "c", 1), ("c", "b", 1))))
        self.assertIsNone(self.worth((("a", "b", 2), ("b", "a", 1), ("b", "A", 1))))

    def test_out_of_order(self):
        self.assertIsNone(self.worth((("b", "A", 3), ("a", "b", 3))))
        self.assertIsNone(self.worth((("a", "b", 1), ("a", "A", 1), ("b", "A", 1))))
        self.assertIsNone(self.worth((("a", "B", 1), ("a", "b", 1), ("b", "A", 1), ("B", "A", 1))))
        # As Python puts texts in order, A, B would be ahead of a, b.
        self.assertEqual(self.worth((("a", "b", 1), ("a", "B", 1), ("b", "A", 1), ("B", "A", 1))), 2)
        self.assertIsNone(self.worth((("B", "A", 1), ("a", "B", 1))))
        self.assertEqual(self.worth((("a", "B", 1), ("B", "A", 1))), 1)

    def test_many_out_of_bounds(self):
        for many in (0, -1, -3, 3, 4, 48):
            self.assertIsNone(self.worth((("a", "A", many),)), many)
        self.assertIsNone(self.worth((("a", "b", 4), ("b", "A", 4))))
        self.assertIsNone(self.worth((("a", "B", 2), ("B", "A", 2))))
        self.assertIsNone(self.worth((("a", "A", 1), ("b", "B", 0))))
        self.assertIsNone(self.worth((("b", "c", -1), ("c", "B", -1), ("B", "b", -1))))

    def test_no_ties_between_the_two(self):
        self.assertIsNone(self.worth((("a", "d", 1), ("d", "A", 1))))
        self.assertIsNone(self.worth((("b", "D", 1), ("c", "b", 1), ("D", "c", 1))))
        self.assertIsNone(flow_worth(1, {}, "a", (("a", "A", 1),)))
        self.assertIsNone(flow_worth(2, {("a", "A"): 1}, "b", (("b", "B", 1),)))

    def test_a_letter_to_itself(self):
        for letter in helping.ALL_LETTERS:
            self.assertIsNone(self.worth(((letter, letter, 1),)))
        self.assertIsNone(self.worth((("a", "A", 1), ("b", "b", 1))))

    def test_at_another_letter_more_comes_than_goes_or_less(self):
        self.assertIsNone(self.worth((("a", "b", 1),)))
        self.assertIsNone(self.worth((("b", "A", 1),)))
        self.assertIsNone(self.worth((("a", "b", 2), ("b", "A", 1))))
        self.assertIsNone(self.worth((("a", "b", 1), ("b", "A", 2))))
        self.assertIsNone(self.worth((("a", "b", 1), ("b", "c", 1))))
        for place in "bBcC":
            self.assertEqual(self.worth(helping.sorted_flow((("a", place, 1), (place, "A", 1)))), 1)
            self.assertIsNone(self.worth((("a", place, 1),)))
            self.assertIsNone(self.worth(((place, "A", 1),)))
        # As much is missing at the one letter as is too much at the other.
        self.assertIsNone(self.worth((("a", "c", 1), ("B", "A", 1))))

    def test_at_the_asked_one_less_goes_than_comes(self):
        self.assertIsNone(self.worth((("b", "a", 3), ("A", "b", 3))))
        self.assertIsNone(self.worth((("A", "b", 3), ("b", "a", 3))))
        self.assertIsNone(self.worth((("a", "A", 1), ("A", "b", 2), ("b", "a", 2))))
        # As much goes there as comes.
        self.assertEqual(self.worth((("a", "A", 2), ("A", "b", 2), ("b", "a", 2))), 0)

    def test_rounds_change_no_worth(self):
        self.assertEqual(self.worth((("b", "c", 1), ("B", "b", 1), ("c", "B", 1))), 0)
        self.assertEqual(self.worth((("a", "A", 2), ("b", "c", 1), ("B", "b", 1), ("c", "B", 1))), 2)
        # Rounds by the asked letter, by its contrary.
        self.assertEqual(self.worth((("a", "A", 2), ("a", "b", 1), ("b", "c", 1), ("c", "a", 1))), 2)
        self.assertEqual(self.worth((("a", "A", 2), ("A", "b", 1), ("b", "c", 1), ("c", "A", 1))), 2)

    def test_by_chance_against_the_book(self):
        source = helping.chance(82)
        worths = set()
        for n, ties in helping.ties_cases(83, 150):
            for again in range(6):
                letter = source.choice(helping.letters_upto(n))
                flow = net_flow(source, n, ties, letter)
                for other in (flow, spoilt(source, n, flow), spoilt(source, n, flow)):
                    expected = helping.worth_by_the_book(n, ties, letter, other)
                    told = flow_worth(n, ties, letter, other)
                    self.assertEqual(told, expected, (ties, letter, other))
                    worths.add(told)
        self.assertLessEqual({None, 0, 1, 2, 3}, worths)

    def test_asked_again_when_the_dict_was_changed(self):
        ties = {("a", "A"): 2}
        flow = (("a", "A", 2),)
        self.assertEqual(flow_worth(1, ties, "a", flow), 2)
        ties[("a", "A")] = 1
        self.assertIsNone(flow_worth(1, ties, "a", flow))
        ties[("a", "A")] = 2
        self.assertIsNone(flow_worth(1, ties, "A", flow))
        self.assertEqual(flow_worth(1, ties, "a", flow), 2)


if __name__ == "__main__":
    unittest.main()
