"""What is promised over the whole program: its functions used one behind the other, and in any order."""

import importlib
import inspect
import unittest

import helping
from newletters.alphabets import leading_back, look_alphabet
from newletters.changes import change_told, length_behind, rings_changed
from newletters.desk import answered
from newletters.errors import LetterError, NoAlphabet, NoText, TooMany
from newletters.flows import flow_for, flow_worth
from newletters.forms import form_of, letters_to_form
from newletters.leading import led_to
from newletters.levels import forms_from, level_changes
from newletters.papers import paper_for, paper_holds
from newletters.primitives import as_letter, letters_needed
from newletters.retellings import retold, ring_retold, told_same, told_then
from newletters.retellingtexts import read_retelling, show_retelling
from newletters.rings import ring_of
from newletters.ringtexts import read_rings, show_rings
from newletters.roads import road_back, road_told, rows_along
from newletters.roadtexts import read_paper, read_road, show_paper, show_road
from newletters.shortening import made_short, made_shorter
from newletters.sides import least_side, ties_leaving
from newletters.splits import split_rings
from newletters.ties import count_of, ties_of
from newletters.webs import is_read, web_of

# All names of the interface with their arguments.
INTERFACE = {
    "letters": {"letters_of": "n", "contrary": "letter"},
    "words": {"look_word": "n thing", "laid_out": "text", "turned_back": "word", "joined": "one other",
              "words_in_order": "words"},
    "rings": {"ring_of": "word", "is_ring": "word", "wound_by": "word"},
    "retellings": {"retold": "retelling word", "ring_retold": "retelling ring", "told_then": "one other",
                   "told_same": "n", "turned_by": "n word"},
    "retellingtexts": {"show_retelling": "retelling", "read_retelling": "text"},
    "webs": {"web_of": "n words", "is_read": "web word"},
    "alphabets": {"look_alphabet": "retelling", "leading_back": "retelling"},
    "ties": {"ties_of": "rings", "count_of": "rings letter"},
    "sides": {"ties_leaving": "ties side", "least_side": "n ties letter"},
    "flows": {"flow_for": "n ties letter", "flow_worth": "n ties letter flow"},
    "changes": {"look_change": "n change", "change_told": "n change", "rings_changed": "n rings change",
                "length_behind": "n rings change"},
    "roads": {"road_told": "n road", "road_back": "n road", "rows_along": "n rings road"},
    "shortening": {"made_shorter": "n rings", "made_short": "n rings"},
    "papers": {"paper_for": "n rings", "paper_holds": "n rings paper"},
    "forms": {"form_of": "ring", "letters_to_form": "n ring"},
    "levels": {"level_changes": "n ring", "forms_from": "n ring most"},
    "leading": {"led_to": "n one other most"},
    "primitives": {"as_letter": "n word", "letters_needed": "n word"},
    "splits": {"split_rings": "n rings"},
    "ringtexts": {"show_rings": "rings", "read_rings": "n text"},
    "roadtexts": {"show_road": "road", "show_paper": "paper", "read_road": "n text", "read_paper": "n text"},
    "desk": {"answered": "n row"},
}

ROW = ("aab", "", "abAB")


def told_by(function, *handed):
    """What is told, or the class of the refusal."""
    try:
        return function(*handed)
    except LetterError as refusal:
        return type(refusal)


def questions(n, rings, word):
    """Each function that takes n, asked once."""
    ring = ring_of(word)
    alphabet = as_letter(n, "a")[1]
    return (
        (web_of, n, [word, "a"]), (least_side, n, ties_of(rings), "a"), (flow_for, n, ties_of(rings), "a"),
        (change_told, n, ("a", ("a",))), (rings_changed, n, rings, ("A", ("A",))), (road_told, n, ()),
        (length_behind, n, rings, ("a", ("a",))), (rows_along, n, rings, (("change", "a", ("a",)),)),
        (made_shorter, n, rings), (made_short, n, rings), (paper_for, n, rings), (letters_to_form, n, ring),
        (level_changes, n, ring), (forms_from, n, form_of(ring), 12), (led_to, n, word, "a", 12), (as_letter, n, word),
        (letters_needed, n, word), (split_rings, n, rings), (read_rings, n, show_rings(rings)),
        (read_road, n, "change a : a"), (read_paper, n, show_paper(paper_for(n, rings))), (leading_back, alphabet),
        (answered, n, "letter " + (word or ".")), (answered, n, "split " + show_rings(rings)),
    )


class Interface(unittest.TestCase):
    def test_names_and_arguments(self):
        for name, functions in INTERFACE.items():
            module = importlib.import_module("newletters." + name)
            for function, arguments in functions.items():
                told = inspect.signature(getattr(module, function))
                self.assertEqual(" ".join(told.parameters), arguments, (name, function))


class UsedOn(unittest.TestCase):
    def test_a_text_to_a_paper_and_back(self):
        source = helping.chance(211)
        for again in range(60):
            n = source.randint(1, 4)
            text = show_rings(helping.row_by_chance(source, n))
            rings = read_rings(n, text)
            changes, row = made_short(n, rings)
            paper = paper_for(n, rings)
            self.assertEqual(paper[0], tuple(changes))
            self.assertIs(paper_holds(n, rings, read_paper(n, show_paper(paper))), True)
            self.assertEqual(read_rings(n, show_rings(row)), row)
            self.assertEqual(paper_for(n, row), ((), paper[1]))
            self.assertIs(paper_holds(n, row, ((), paper[1])), True)
            road = tuple(("change",) + change for change in changes)
            self.assertEqual(([rings] + rows_along(n, rings, read_road(n, show_road(road))))[-1], row)

    def test_the_ties_tell_the_lengths_ahead(self):
        source = helping.chance(212)
        for again in range(60):
            n = source.randint(1, 4)
            row = helping.row_by_chance(source, n)
            for change in made_short(n, row)[0]:
                ahead = length_behind(n, row, change)
                fall = made_shorter(n, row)[1]
                self.assertEqual(count_of(row, change[0]) - ties_leaving(ties_of(row), change[1]), fall)
                self.assertEqual(ahead, len("".join(row)) - fall)
                row = rings_changed(n, row, change)
                self.assertEqual(ahead, len("".join(row)))
            for letter in "abcd"[:n]:
                flow = flow_for(n, ties_of(row), letter)
                self.assertEqual(flow_worth(n, ties_of(row), letter, flow), count_of(row, letter))

    def use_road(self, n, rings, road, end):
        read = read_road(n, show_road(road))
        self.assertEqual(read, road)
        self.assertEqual(([rings] + rows_along(n, rings, read))[-1], end)
        back = read_road(n, show_road(road_back(n, read)))
        self.assertEqual(([end] + rows_along(n, end, back))[-1], rings)
        told = road_told(n, road)
        self.assertEqual(tuple(ring_retold(told, ring) for ring in rings), end)
        self.assertIs(look_alphabet(told), True)
        self.assertEqual(told_then(told, leading_back(told)), told_same(n))
        self.assertEqual(leading_back(told), road_told(n, back))
        self.assertEqual(read_retelling(show_retelling(told)), told)

    def test_roads_told_are_used_on(self):
        source = helping.chance(213)
        for again in range(60):
            n = source.randint(1, 4)
            rings = helping.row_by_chance(source, n, 12)
            road, row, parts = split_rings(n, rings)
            self.use_road(n, rings, road, row)
            word = helping.word_by_chance(source, min(n, 2), source.randint(0, 8))
            many, road = letters_needed(n, word)
            short = ([(ring_of(word),)] + rows_along(n, (ring_of(word),), road))[-1]
            self.use_road(n, (ring_of(word),), road, short)
            other = retold(helping.alphabet_by_chance(source, n, 2), word)
            told = led_to(n, word, other, 12)
            self.assertEqual(told[0], "led")
            self.use_road(n, (ring_of(word),), told[1], (ring_of(other),))
            back = led_to(n, other, word, 12)
            self.use_road(n, (ring_of(other),), back[1] + told[1], (ring_of(other),))

    def test_a_word_is_a_letter_just_where_its_ring_is_made_as_short_as_one(self):
        source = helping.chance(214)
        for again in range(100):
            n = source.randint(1, 4)
            word = helping.word_by_chance(source, n, source.randint(0, 8))
            kind, told = as_letter(n, word)
            short = made_short(n, (ring_of(word),))[1][0]
            self.assertEqual(kind == "letter", len(short) == 1)
            self.assertEqual(answered(n, "letter " + (word or "."))[:2], "ye" if kind == "letter" else "no")
            if kind == "letter":
                self.assertEqual(led_to(n, word, "a", 1)[0], "led")
                self.assertEqual(letters_needed(n, word)[0], 1)
                self.assertEqual(read_retelling(show_retelling(told)), told)
                self.assertIs(is_read(web_of(n, told), "a"), True)
            else:
                self.assertIs(paper_holds(n, (ring_of(word),), read_paper(n, show_paper(told))), True)

    def test_an_alphabet_just_where_another_one_leads_back(self):
        source = helping.chance(215)
        for again in range(100):
            n = source.randint(1, 4)
            words = tuple(helping.word_by_chance(source, n, source.randint(0, 4)) for letter in range(n))
            try:
                back = leading_back(words)
                self.assertEqual(told_then(words, back), told_same(n))
                self.assertEqual(told_then(back, words), told_same(n))
            except NoAlphabet as refusal:
                self.assertEqual(refusal.web, web_of(n, words))
                self.assertFalse(all(is_read(web_of(n, words), letter) for letter in told_same(n)))

    def test_led_just_where_the_forms_are_the_same(self):
        source = helping.chance(216)
        for again in range(100):
            one, other = [helping.word_by_chance(source, 2, source.choice((4, 6, 8))) for word in range(2)]
            forms = [forms_from(2, made_short(2, (ring_of(word),))[1][0], 12) for word in (one, other)]
            self.assertEqual(led_to(2, one, other, 12)[0] == "led", forms[0] == forms[1], (one, other))
            self.assertEqual(led_to(2, other, one, 12)[0] == "led", forms[0] == forms[1])


class AskedAgain(unittest.TestCase):
    def test_one_n_another_and_the_first_again(self):
        asked = []
        for n in (2, 3, 4):
            for rings, word in ((ROW, "ab"), (("ab", "b"), "aabb"), (("aa", "bb", ""), "abAB"), (("",), "")):
                asked.extend(questions(n, rings, word))
        asked.extend([(forms_from, 3, "aaabbcc", 12), (led_to, 3, "aaabbcc", "aaabbcc", 12), (read_rings, 2, "abc")])
        first = [told_by(*question) for question in asked]
        self.assertEqual(first[-3:], [TooMany, TooMany, NoText])
        for question, told in list(zip(asked, first))[::-1] + list(zip(asked, first)):
            self.assertEqual(told_by(*question), told, question)

    def test_lists_and_dicts_handed_in_stay(self):
        words, ties = ["ab", "ba", ""], ties_of(ROW)
        kept = dict(ties)
        web_of(2, words)
        least_side(2, ties, "a")
        flow_worth(2, ties, "a", flow_for(2, ties, "a"))
        self.assertEqual(words, ["ab", "ba", ""])
        self.assertEqual(list(ties.items()), list(kept.items()))


if __name__ == "__main__":
    unittest.main()
