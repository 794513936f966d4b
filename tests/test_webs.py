import itertools
import unittest

import helping
from newletters.retellings import told_then
from newletters.webs import is_read, web_of


def edges_by_the_book(words):
    """All words laid as rounds from 0; then, two edges at a time, what must be one place is renamed to one."""
    edges = set()
    fresh = itertools.count(1)
    for word in words:
        here = 0
        for place, letter in enumerate(word):
            goal = 0 if place == len(word) - 1 else next(fresh)
            edges.add((here, letter, goal) if letter.islower() else (goal, letter.lower(), here))
            here = goal
    while True:
        pair = next((sorted((one[2 - end], other[2 - end])) for end in (0, 2)
                     for one, other in itertools.combinations(sorted(edges), 2)
                     if one[1] == other[1] and one[end] == other[end]), None)
        if pair is None:
            return edges
        kept, gone = pair
        edges = {tuple(kept if member == gone else member for member in edge) for edge in edges}


def web_by_the_book(n, words):
    edges = edges_by_the_book(words)
    order = [0]
    for place in order:
        for letter in helping.letters_upto(n):
            near, far = (0, 2) if letter.islower() else (2, 0)
            for edge in edges:
                if edge[1] == letter.lower() and edge[near] == place and edge[far] not in order:
                    order.append(edge[far])
    goals = {(edge[0], edge[1]): order.index(edge[2]) for edge in edges}
    return tuple(tuple(goals.get((place, letter)) for letter in "abcd"[:n]) for place in order)


def words_by_chance(source, n):
    """At most six words with at most forty letters in all; some share a begin."""
    begin = helping.word_by_chance(source, n, source.randint(0, 2))
    words = []
    for again in range(source.randint(0, 6)):
        word = helping.word_by_chance(source, n, source.randint(0, 5))
        if source.random() < 0.4:
            word = helping.taken_out(begin + word + helping.backwards(begin))
        if len("".join(words)) + len(word) <= 40:
            words.append(word)
    return words


def products(words, many):
    """What comes of joining at most so many of the words and of them turned back."""
    chosen = [""] + list(words) + [helping.backwards(word) for word in words]
    return {helping.taken_out("".join(parts)) for parts in itertools.product(chosen, repeat=many)}


class WebOf(unittest.TestCase):
    def test_no_words_and_words_without_letters(self):
        for n in range(1, 5):
            for words in ([], (), [""], ["", "", ""], ("",)):
                self.assertEqual(web_of(n, words), ((None,) * n,))

    def test_one_letter(self):
        self.assertEqual(web_of(1, ["a"]), ((0,),))
        self.assertEqual(web_of(1, ["A"]), ((0,),))
        self.assertEqual(web_of(3, ["b"]), ((None, 0, None),))
        self.assertEqual(web_of(4, ["D"]), ((None, None, None, 0),))

    def test_the_letters_themselves(self):
        for n in range(1, 5):
            self.assertEqual(web_of(n, list("abcd"[:n])), ((0,) * n,))
            self.assertEqual(web_of(n, list("ABCD"[:n])), ((0,) * n,))

    def test_one_word(self):
        self.assertEqual(web_of(1, ["aaa"]), ((1,), (2,), (0,)))
        self.assertEqual(web_of(2, ["ab"]), ((1, None), (None, 0)))
        self.assertEqual(web_of(2, ["aB"]), ((1, 1), (None, None)))
        self.assertEqual(web_of(2, ["abAB"]), ((1, 2), (None, 3), (3, None), (None, None)))

    def test_places_fall_together_again_and_again(self):
        self.assertEqual(web_of(1, ["aaaaaa", "aaaa"]), ((1,), (0,)))
        self.assertEqual(web_of(1, ["a" * 15, "a" * 10, "a" * 6]), ((0,),))
        self.assertEqual(web_of(1, ["a" * 12, "A" * 18]), ((1,), (3,), (0,), (5,), (2,), (4,)))
        self.assertEqual(web_of(2, ["ab", "aab"]), ((0, 0),))
        self.assertEqual(web_of(2, ["ab", "abb"]), ((0, 0),))
        self.assertEqual(web_of(2, ["abA", "aabAA", "a"]), ((0, 0),))
        self.assertEqual(web_of(2, ["aa", "ab", "ba"]), ((1, 1), (0, 0)))
        self.assertEqual(web_of(2, ["aa", "bb", "ab"]), ((1, 1), (0, 0)))

    def test_a_word_ahead_and_it_turned_back_behind(self):
        self.assertEqual(web_of(2, ["abA"]), ((1, None), (None, 1)))
        self.assertEqual(web_of(2, ["abbaBBA"]), ((1, None), (None, 2), (None, 3), (3, None)))
        self.assertEqual(web_of(3, ["cabAC", "cbC"]), ((None, None, 1), (2, 1, None), (None, 2, None)))

    def test_numbered_as_they_come_up(self):
        # From 0 by a, A, b, B in this order, and only then from the next place.
        self.assertEqual(web_of(2, ["abA", "Aba", "baB", "Bab"]),
                         ((1, 3), (None, 1), (0, 2), (3, None), (4, 0)))
        self.assertEqual(web_of(2, ["bbAA"]), ((1, 2), (3, None), (None, 3), (None, None)))
        self.assertEqual(web_of(1, ["aaaaa"]), ((1,), (3,), (0,), (4,), (2,)))

    def test_by_the_book(self):
        source = helping.chance(41)
        for again in range(400):
            n = source.randint(1, 4)
            words = words_by_chance(source, n)
            self.assertEqual(web_of(n, words), web_by_the_book(n, words), words)

    def test_its_form(self):
        source = helping.chance(42)
        for again in range(100):
            n = source.randint(1, 4)
            web = web_of(n, words_by_chance(source, n))
            self.assertIs(type(web), tuple)
            for goals in web:
                self.assertIs(type(goals), tuple)
                self.assertEqual(len(goals), n)
                self.assertTrue(all(goal is None or type(goal) is int and goal in range(len(web)) for goal in goals))
            for letter in range(n):
                known = [goals[letter] for goals in web if goals[letter] is not None]
                self.assertEqual(len(known), len(set(known)))

    def test_only_what_some_plain_word_comes_by_is_left(self):
        # The b between a and A falls to a round at 0 when a itself does, and the way by a leads nowhere else.
        self.assertEqual(web_of(2, ["abA", "a"]), ((0, 0),))
        self.assertEqual(web_of(3, ["abcBA", "ab"]), ((1, None, 0), (None, 0, None)))
        source = helping.chance(43)
        for again in range(200):
            n = source.randint(1, 4)
            web = web_of(n, words_by_chance(source, n))
            for place in range(1, len(web)):
                ways = sum(goal is not None for goal in web[place]) + sum(goals.count(place) for goals in web)
                self.assertGreaterEqual(ways, 2, web)

    def test_in_any_order_told_twice_turned_back(self):
        source = helping.chance(44)
        for again in range(150):
            n = source.randint(1, 4)
            words = words_by_chance(source, n)
            web = web_of(n, words)
            other = [helping.backwards(word) if source.random() < 0.5 else word for word in words]
            other += other[:2]
            source.shuffle(other)
            self.assertEqual(web_of(n, other), web, words)
            self.assertEqual(web_of(n, tuple(other)), web)
            self.assertEqual(web_of(n, words + [""]), web)

    def test_words_joined_of_them_add_nothing(self):
        words = ["abA", "bb", "aab"]
        web = web_of(2, words)
        for more in sorted(products(words, 2)):
            self.assertEqual(web_of(2, words + [more]), web)

    def test_what_is_handed_in_stays(self):
        words = ["ab", "Ba", ""]
        web = web_of(2, words)
        self.assertEqual(words, ["ab", "Ba", ""])
        words.append("a")
        self.assertEqual(web_of(2, ["ab", "Ba"]), web)
        self.assertEqual(web_of(2, words), ((0, 0),))
        self.assertEqual(web_of(2, ["ab", "Ba"]), web)

    def test_what_is_told_is_handed_on(self):
        growing = ("ab", "a")
        for again in range(18):
            growing = told_then(growing, ("ab", "a"))
        self.assertEqual(web_of(2, growing), ((0, 0),))
        web = web_of(2, [growing[0]])
        self.assertEqual(len(web), len(growing[0]))
        self.assertIs(is_read(web, growing[0]), True)


class IsRead(unittest.TestCase):
    def test_the_word_without_letters(self):
        for n in range(1, 5):
            self.assertIs(is_read(web_of(n, []), ""), True)
            self.assertIs(is_read(web_of(n, ["aa"]), ""), True)

    def test_nothing_else_by_the_web_of_no_words(self):
        for n in range(1, 5):
            for word in helping.plain_words(n, 2):
                self.assertIs(is_read(web_of(n, []), word), word == "")

    def test_words_that_stop_on_the_way(self):
        web = web_of(2, ["ab"])
        for word in ("b", "A", "aa", "abb", "abaa", "BAA"):
            self.assertIs(is_read(web, word), False, word)

    def test_words_that_end_elsewhere(self):
        web = web_of(2, ["ab"])
        for word in ("a", "B", "aba", "BAB"):
            self.assertIs(is_read(web, word), False, word)
        self.assertIs(is_read(web_of(1, ["aaa"]), "aaaa"), False)

    def test_words_that_are_read(self):
        web = web_of(2, ["ab"])
        for word in ("ab", "abab", "BA", "BABA"):
            self.assertIs(is_read(web, word), True, word)
        web = web_of(2, ["abA"])
        for word in ("abA", "aBA", "abbbA"):
            self.assertIs(is_read(web, word), True, word)
        for word in ("b", "ab", "a", "bab"):
            self.assertIs(is_read(web, word), False, word)

    def test_what_is_joined_of_the_words_is_read(self):
        source = helping.chance(45)
        for again in range(40):
            n = source.randint(1, 4)
            words = words_by_chance(source, n)[:3]
            web = web_of(n, words)
            for word in products(words, 3):
                self.assertIs(is_read(web, word), True, (words, word))

    def test_nothing_else_is_read(self):
        # Words with even many letters are just what comes of these three.
        even = web_of(2, ["aa", "ab", "aB"])
        for word in helping.plain_words(2, 6):
            self.assertIs(is_read(even, word), len(word) % 2 == 0, word)
        # Those whose letters less their contraries are a multiple of three.
        third = web_of(2, ["aaa", "aB", "aab", "aba", "bA"])
        for word in helping.plain_words(2, 6):
            total = sum(1 if letter.islower() else -1 for letter in word)
            self.assertIs(is_read(third, word), total % 3 == 0, word)
        # Neither of these two falls away beside the other, so what is read is made of them one behind the other.
        free = web_of(2, ["aa", "bb"])
        made = products(["aa", "bb"], 3)
        for word in helping.plain_words(2, 6):
            self.assertIs(is_read(free, word), word in made, word)

    def test_all_of_n_are_read_by_the_letters_web(self):
        for n in range(1, 5):
            web = web_of(n, list("abcd"[:n]))
            for word in helping.plain_words(n, 3):
                self.assertIs(is_read(web, word), True)

    def test_asked_again_behind_other_questions(self):
        one, other = web_of(2, ["ab"]), web_of(3, ["c"])
        self.assertIs(is_read(one, "ab"), True)
        self.assertIs(is_read(other, "ccc"), True)
        self.assertIs(is_read(other, "ab"), False)
        self.assertIs(is_read(one, "ab"), True)
        self.assertEqual(one, ((1, None), (None, 0)))


if __name__ == "__main__":
    unittest.main()
