import unittest

import helping
from newletters.errors import LetterError, NoText
from newletters.leading import led_to
from newletters.papers import paper_for, paper_holds
from newletters.retellings import ring_retold
from newletters.roads import road_back, rows_along
from newletters.roadtexts import read_paper, read_road, show_paper, show_road

ROADS = (
    (1, (), ""),
    (1, (("change", "A", ("A",)),), "change A : A"),
    (1, (("exchange", ("A",)),), "exchange A"),
    (2, (("change", "a", ("a", "B")),), "change a : a B"),
    (2, (("exchange", ("b", "A")),), "exchange b A"),
    (2, (("change", "B", ("a", "A", "B")), ("exchange", ("a", "b"))), "change B : a A B\nexchange a b"),
    (4, (("exchange", ("d", "C", "b", "A")), ("change", "d", ("a", "b", "B", "C", "d")), ("change", "d", ("d",))),
     "exchange d C b A\nchange d : a b B C d\nchange d : d"),
)

PAPERS = (
    (1, ((), ()), ""),
    (1, ((), ((),)), "flow :"),
    (2, ((), ((), ())), "flow :\nflow :"),
    (1, ((), ((("a", "A", 2),),)), "flow : a A 2"),
    (2, ((("a", ("a", "B")),), ()), "change a : a B"),
    (2, ((("a", ("a", "B")),), ((), (("b", "B", 1),))), "change a : a B\nflow :\nflow : b B 1"),
    (2, ((("b", ("b",)), ("A", ("A", "b"))), ((("a", "b", 10), ("b", "A", 999999)),)),
     "change b : b\nchange A : A b\nflow : a b 10 b A 999999"),
)


def flow_by_chance(source, n):
    """Any tuples, such as are no flow among them."""
    letters = helping.letters_upto(n)
    return tuple((source.choice(letters), source.choice(letters), source.choice((1, 7, 10, 48, 120, 999999)))
                 for again in range(source.randint(0, 4)))


class Look(unittest.TestCase):
    def refused(self, function, n, text, row):
        refusal = helping.refusal_of(self, NoText, function, n, text)
        self.assertEqual(refusal.row, row, text)
        self.assertIsInstance(refusal, LetterError)
        self.assertIsInstance(refusal, ValueError)

    # Amiss in a road and in a paper, by itself and behind others.
    def refused_in_both(self, n, row):
        for function in (read_road, read_paper):
            self.refused(function, n, row, 0)
            self.refused(function, n, "change a : a\n" + row, 1)
            self.refused(function, n, row + "\nchange a : a", 0)
            self.refused(function, n, "change a : a\nchange A : A\n" + row + "\n" + row, 2)


class Roads(Look):
    def test_some(self):
        for n, road, text in ROADS:
            self.assertEqual(show_road(road), text)
            self.assertIs(type(show_road(road)), str)
            for more in range(n, 5):
                if "exchange" in text and more > n:
                    self.refused(read_road, more, text, [step[0] for step in road].index("exchange"))
                else:
                    self.assertEqual(read_road(more, text), road)
                    self.assertTrue(helping.is_road_by_the_book(more, read_road(more, text)))

    def test_there_and_back(self):
        source = helping.chance(191)
        for again in range(300):
            n = source.randint(1, 4)
            road = helping.road_by_chance(source, n)
            told = read_road(n, show_road(road))
            self.assertEqual(told, road)
            self.assertTrue(helping.is_road_by_the_book(n, told))

    def test_each_change_and_exchange(self):
        for n in (1, 2, 3):
            for letters in helping.exchanges(n):
                self.assertEqual(read_road(n, " ".join(("exchange",) + letters)), (("exchange", letters),))
            for letter in helping.letters_upto(n):
                for side in helping.sides_by_the_book(n, letter):
                    text = f"change {letter} : " + " ".join(side)
                    self.assertEqual(read_road(n, text), (("change", letter, side),))
                    self.assertEqual(read_paper(n, text), (((letter, side),), ()))

    def test_exchanges_that_are_none(self):
        for n, rows in (
            (1, ("exchange", "exchange ", "exchange b", "exchange B", "exchange a A", "exchange a a", "exchange a b")),
            (2, ("exchange a", "exchange a a", "exchange a A", "exchange b B", "exchange a c", "exchange a b c",
                 "exchange a b a", "exchange ab", "exchange  a b", "exchange a  b", "exchange a b ", " exchange a b",
                 "exchange a .", "exchange : a b", "exchange a, b", "Exchange a b", "exchanges a b", "exchangea b")),
            (3, ("exchange a b", "exchange a b b", "exchange a b B", "exchange A b a", "exchange a b d",
                 "exchange a b c c", "exchange a b c C")),
            (4, ("exchange a b c", "exchange a b c e", "exchange a b c C", "exchange a b c d d")),
        ):
            for row in rows:
                self.refused(read_road, n, row, 0)
                self.refused(read_road, n, "change a : a\n" + row + "\n", 1)

    def test_flows_are_refused(self):
        self.refused(read_road, 2, "flow :", 0)
        self.refused(read_road, 2, "change a : a\nflow : a A 1", 1)
        self.refused(read_road, 2, "change a : a\nexchange a b\nflow :\nflow :", 2)

    def test_the_first_of_several(self):
        self.refused(read_road, 2, "change a : a\nexchange a a\nchange a : b", 1)
        self.refused(read_road, 2, "change a : a\n\nchange a : b", 1)
        self.refused(read_road, 2, "change c : c\nexchange a b c", 0)

    def test_exchanges_behind_changes_and_ahead(self):
        self.assertEqual(len(read_road(2, "exchange b a\nchange a : a\nexchange b a\nchange a : a")), 4)


class Changes(Look):
    def test_rows_without_their_words(self):
        for row in (" ", "change", "change a", "change a :", "change : a", "a : a", "change a a", "change a = a",
                    "chang a : a", "Change a : a", "a", "change a a :", ": a", "change a ; a", "changea : a",
                    "change a: a", "change a :a", "change a : a :", "change a : a ;", "change a : .", "."):
            self.refused_in_both(2, row)

    def test_blanks(self):
        for row in (" change a : a", "change  a : a", "change a  : a", "change a :  a", "change a : a ",
                    "change a : a  B", "change a : ", "change a : a\t", "change\ta : a", "change a : aB"):
            self.refused_in_both(2, row)

    def test_sides_that_are_none(self):
        for row in ("change a : b", "change a : A", "change a : a A", "change a : b a", "change a : a a",
                    "change a : a B b", "change a : a b b", "change b : a B", "change B : b", "change A : a",
                    "change a : a c", "change a : a C", "change a : a e", "change b : b a", "change a : a 1"):
            self.refused_in_both(2, row)

    def test_letters_none_of_n(self):
        self.refused_in_both(1, "change b : b")
        self.refused_in_both(1, "change a : a b")
        self.refused_in_both(2, "change c : c")
        self.refused_in_both(3, "change D : D")
        self.refused_in_both(4, "change e : e")
        self.refused_in_both(4, "change ab : ab")
        self.refused_in_both(4, "change a : a b e")

    def test_empty_rows(self):
        for function in (read_road, read_paper):
            self.refused(function, 2, "\n", 0)
            self.refused(function, 2, "change a : a\n", 1)
            self.refused(function, 2, "\nchange a : a", 0)
            self.refused(function, 2, "change a : a\n\nchange a : a", 1)


class Papers(Look):
    def test_some(self):
        for n, paper, text in PAPERS:
            self.assertEqual(show_paper(paper), text)
            self.assertIs(type(show_paper(paper)), str)
            for more in range(n, 5):
                told = read_paper(more, text)
                self.assertEqual(told, paper)
                self.assertEqual([type(part) for part in (told,) + told], [tuple, tuple, tuple])

    def test_numbers_are_whole_numbers(self):
        flow = read_paper(2, "flow : a b 10 b A 999999")[1][0]
        self.assertEqual([type(part) for part in flow], [tuple, tuple])
        self.assertEqual([(type(many), many) for one, other, many in flow], [(int, 10), (int, 999999)])

    def test_there_and_back(self):
        source = helping.chance(192)
        for again in range(300):
            n = source.randint(1, 4)
            changes = tuple(helping.change_by_chance(source, n) for again in range(source.randint(0, 4)))
            flows = tuple(flow_by_chance(source, n) for again in range(source.randint(0, 5)))
            self.assertEqual(read_paper(n, show_paper((changes, flows))), (changes, flows))

    def test_papers_that_hold(self):
        source = helping.chance(193)
        for again in range(60):
            n = source.randint(1, 4)
            rings = helping.row_by_chance(source, n)
            paper = paper_for(n, rings)
            self.assertEqual(read_paper(n, show_paper(paper)), paper)
            self.assertIs(paper_holds(n, rings, read_paper(n, show_paper(paper))), True)

    def test_flows_that_are_none_are_read(self):
        for n, text, flow in (
            (1, "flow : a a 1", (("a", "a", 1),)),
            (2, "flow : b a 1 a b 2 a b 3", (("b", "a", 1), ("a", "b", 2), ("a", "b", 3))),
            (2, "flow : B b 5 b B 5", (("B", "b", 5), ("b", "B", 5))),
        ):
            self.assertEqual(read_paper(n, text), ((), (flow,)))

    def test_how_many_flows_there_are_is_not_looked_at(self):
        self.assertEqual(read_paper(1, "flow :\nflow :\nflow :"), ((), ((), (), ())))
        self.assertEqual(read_paper(4, "flow : d D 1"), ((), ((("d", "D", 1),),)))

    def test_a_change_behind_a_flow(self):
        self.refused(read_paper, 2, "flow :\nchange a : a", 1)
        self.refused(read_paper, 2, "change a : a\nflow : a A 1\nflow :\nchange a : a\nflow :", 3)

    def test_exchanges_are_refused(self):
        self.refused(read_paper, 2, "exchange a b", 0)
        self.refused(read_paper, 2, "change a : a\nexchange b a\nflow :", 1)
        self.refused(read_paper, 2, "flow :\nexchange b a", 1)

    def flow_refused(self, n, row):
        self.refused(read_paper, n, row, 0)
        self.refused(read_paper, n, "change a : a\nflow :\n" + row + "\nflow : 1", 2)

    def test_rows_without_their_words(self):
        for row in ("flow", "flow a A 1", ": a A 1", "flow : a", "flow : a A", "flow : a A 1 b", "flow : a A 1 b B",
                    "flow : 1", "flow : a 1 A", "flow : 1 a A", "flow : a A 1 :", "Flow :", "flows :", "flow ;",
                    "flow: a A 1", "flow :a A 1", "flow : aA 1", "flow : a A1", "flow : a A 1;", "flow : .",
                    "flow a : a A 1", "flow : a A 1, b B 1", "flow : : :"):
            self.flow_refused(2, row)

    def test_blanks(self):
        for row in ("flow : ", " flow :", "flow  :", "flow :  a A 1", "flow : a  A 1", "flow : a A  1",
                    "flow : a A 1 ", "flow : a A 1  b B 1", "flow :   ", "flow :    ", "flow : a  1", "flow :  A 1", "flow : a A ",
                    "flow : a A 1 b B "):
            self.flow_refused(2, row)

    def test_letters_none_of_n(self):
        for n, row in ((1, "flow : a b 1"), (1, "flow : B a 1"), (2, "flow : a A 1 c C 1"), (3, "flow : a D 1"),
                       (4, "flow : a e 1"), (4, "flow : E a 1"), (2, "flow : ab A 1"), (2, "flow : a . 1")):
            self.flow_refused(n, row)

    def test_numbers(self):
        for many in (1, 9, 10, 48, 100, 99999, 100000, 999999):
            self.assertEqual(read_paper(1, f"flow : a A {many}"), ((), ((("a", "A", many),),)))
        for shown in ("0", "00", "01", "007", "000001", "-1", "+1", "1.", "1.0", "1e3", "x", "a", "0x1", "1_0", ":",
                      "1000000", "9999999", "1,0", "000000", "0999999", "-", "1-", "1 0", "12345678901234567890", "."):
            self.flow_refused(1, "flow : a A " + shown)
            self.flow_refused(1, "flow : a A 1 A a " + shown)
            self.flow_refused(1, "flow : a A " + shown + " A a 1")

    def test_empty_rows(self):
        self.refused(read_paper, 2, "flow :\n", 1)
        self.refused(read_paper, 2, "flow :\n\nflow :", 1)
        self.refused(read_paper, 2, "\nflow :", 0)

    def test_the_first_of_several(self):
        self.refused(read_paper, 2, "flow : a A 0\nchange a : a", 0)
        self.refused(read_paper, 2, "flow :\nchange a : a\nflow : a A 0", 1)
        self.refused(read_paper, 2, "change a : b\nexchange a b", 0)

    def test_n_matters(self):
        text = "change b : b\nflow : b B 1"
        self.assertEqual(read_paper(2, text), ((("b", ("b",)),), ((("b", "B", 1),),)))
        self.refused(read_paper, 1, text, 0)
        self.assertEqual(read_paper(3, text), read_paper(2, text))
        self.refused(read_paper, 1, "flow :\nflow : b B 1", 1)


class HandedOn(Look):
    def test_what_is_told_is_handed_on(self):
        ring = ring_retold(helping.long_alphabet(14), "aabb")
        road = led_to(3, ring, "abaB", 12)[1]
        text = show_road(road)
        self.assertGreater(len(text), 200)
        self.assertEqual(rows_along(3, (ring,), read_road(3, text))[-1], ("abaB",))
        back = read_road(3, show_road(road_back(3, road)))
        self.assertEqual(rows_along(3, ("abaB",), back)[-1], (ring,))
        paper = paper_for(3, (ring, "aab"))
        self.assertEqual(read_paper(3, show_paper(paper)), paper)


if __name__ == "__main__":
    unittest.main()
