import unittest

import helping
from newletters.changes import look_change
from newletters.retellings import told_same
from newletters.roads import road_back, road_told, rows_along


class RoadTold(unittest.TestCase):
    def test_without_steps(self):
        for n in range(1, 5):
            self.assertEqual(road_told(n, ()), told_same(n))

    def test_one_change(self):
        self.assertEqual(road_told(2, (("change", "a", ("a", "b")),)), ("a", "ba"))
        self.assertEqual(road_told(2, (("change", "B", ("a", "A", "B")),)), ("baB", "b"))
        self.assertEqual(road_told(1, (("change", "A", ("A",)),)), ("a",))

    def test_one_exchange(self):
        for n in range(1, 5):
            for letters in helping.exchanges(n):
                self.assertEqual(road_told(n, (("exchange", letters),)), letters)

    def test_the_first_step_first(self):
        change, exchange = ("change", "a", ("a", "b")), ("exchange", ("b", "A"))
        self.assertEqual(road_told(2, (change, exchange)), ("b", "Ab"))
        self.assertEqual(road_told(2, (exchange, change)), ("ba", "A"))
        other = ("change", "b", ("a", "b"))
        self.assertEqual(road_told(2, (change, other)), ("ab", "bab"))
        self.assertEqual(road_told(2, (other, change)), ("aba", "ba"))
        self.assertEqual(road_told(3, (("exchange", ("b", "C", "a")), ("exchange", ("B", "a", "c")))), ("a", "C", "B"))

    def test_by_the_book(self):
        source = helping.chance(101)
        for again in range(200):
            n = source.randint(1, 4)
            road = helping.road_by_chance(source, n)
            told = road_told(n, road)
            self.assertIs(type(told), tuple)
            self.assertEqual(told, helping.road_by_the_book(n, road), road)


class RoadBack(unittest.TestCase):
    def test_without_steps(self):
        for n in range(1, 5):
            self.assertEqual(road_back(n, ()), ())

    def test_a_change(self):
        self.assertEqual(road_back(2, (("change", "a", ("a", "b")),)), (("change", "A", ("A", "b")),))
        self.assertEqual(road_back(2, (("change", "B", ("a", "A", "B")),)), (("change", "b", ("a", "A", "b")),))
        self.assertEqual(road_back(3, (("change", "b", ("a", "b", "c", "C")),)), (("change", "B", ("a", "B", "c", "C")),))
        self.assertEqual(road_back(1, (("change", "A", ("A",)),)), (("change", "a", ("a",)),))

    def test_an_exchange(self):
        self.assertEqual(road_back(1, (("exchange", ("A",)),)), (("exchange", ("A",)),))
        self.assertEqual(road_back(2, (("exchange", ("b", "A")),)), (("exchange", ("B", "a")),))
        self.assertEqual(road_back(3, (("exchange", ("b", "C", "a")),)), (("exchange", ("c", "a", "B")),))
        self.assertEqual(road_back(4, (("exchange", ("D", "c", "a", "b")),)), (("exchange", ("c", "d", "b", "A")),))

    def test_all_exchanges(self):
        for n in range(1, 5):
            for letters in helping.exchanges(n):
                back = road_back(n, (("exchange", letters),))
                self.assertEqual(road_told(n, (("exchange", letters),) + back), told_same(n))
                self.assertIn(back[0][1], list(helping.exchanges(n)))

    def test_the_last_step_first(self):
        road = (("change", "a", ("a", "b")), ("exchange", ("b", "A")), ("change", "B", ("a", "B")))
        self.assertEqual(road_back(2, road),
                         (("change", "b", ("a", "b")), ("exchange", ("B", "a")), ("change", "A", ("A", "b"))))

    def test_both_one_behind_the_other(self):
        source = helping.chance(102)
        for again in range(200):
            n = source.randint(1, 4)
            road = helping.road_by_chance(source, n)
            back = road_back(n, road)
            self.assertIs(type(back), tuple)
            self.assertEqual([step[0] for step in back], [step[0] for step in road][::-1])
            self.assertEqual(helping.road_by_the_book(n, road + back), told_same(n), road)
            self.assertEqual(helping.road_by_the_book(n, back + road), told_same(n), road)
            self.assertEqual(road_told(n, road + back), told_same(n))
            self.assertEqual(road_told(n, back + road), told_same(n))
            self.assertEqual(road_back(n, back), road)
            for step in back:
                self.assertTrue(step[0] == "exchange" or look_change(n, step[1:]))


class RowsAlong(unittest.TestCase):
    def test_without_steps(self):
        for n in range(1, 5):
            self.assertEqual(rows_along(n, ("a", ""), ()), [])
            self.assertEqual(rows_along(n, (), ()), [])

    def test_a_row_for_each_step(self):
        road = (("change", "a", ("a", "b")), ("exchange", ("b", "A")), ("change", "b", ("a", "b")))
        self.assertEqual(rows_along(2, ("ab", "", "b"), road),
                         [("aab", "", "ab"), ("Abb", "", "Ab"), ("Ab", "", "A")])
        self.assertEqual(rows_along(2, (), road), [(), (), ()])
        self.assertEqual(rows_along(2, ("",), road), [("",), ("",), ("",)])

    def test_by_the_book(self):
        source = helping.chance(103)
        for again in range(200):
            n = source.randint(1, 4)
            rings = helping.row_by_chance(source, n)
            road = helping.road_by_chance(source, n, 5)
            rows = rows_along(n, rings, road)
            self.assertIs(type(rows), list)
            self.assertEqual(len(rows), len(road))
            row = rings
            for step, told in zip(road, rows):
                row = helping.row_by_the_book(helping.step_by_the_book(n, step), row)
                self.assertIs(type(told), tuple)
                self.assertEqual(told, row, (rings, road))
            if road:
                self.assertEqual(rows[-1], helping.row_by_the_book(road_told(n, road), rings))

    def test_there_and_back(self):
        source = helping.chance(104)
        for again in range(60):
            n = source.randint(1, 4)
            rings = helping.row_by_chance(source, n)
            road = helping.road_by_chance(source, n, 4) + (helping.step_by_chance(source, n),)
            rows = rows_along(n, rings, road + road_back(n, road))
            self.assertEqual(rows[-1], rings)

    def test_the_list_is_the_askers_own(self):
        road = (("change", "a", ("a", "b")), ("exchange", ("b", "A")))
        for steps in (road, ()):
            first = rows_along(2, ("ab",), steps)
            kept = list(first)
            first.append(("a",))
            first[0] = ()
            self.assertEqual(rows_along(2, ("ab",), steps), kept)


if __name__ == "__main__":
    unittest.main()
