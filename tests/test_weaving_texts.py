"""Promise [31]: texts of weavings."""

import random
import re
import unittest

from longstrike.books import Book
from longstrike.errors import BadLine, BadWeaving
from longstrike.judging import judge
from longstrike.stores import Store
from longstrike.weaving_texts import read_weaving, write_weaving
from longstrike.weavings import played
from tests.cases import Case, odd_things
from tests.drawing import drawn_book, drawn_deed, is_done

HIGHEST = 10 ** 30 - 1

# The deeds, each with its line.
LINES = [
    (("put", "house", 0, ()), "put house 0"),
    (("put", "room", 4, (("of", 0),)), "put room 4 of=0"),
    (("put", "room", 17, (("of", 0), ("by", 12), ("a", 3))), "put room 17 of=0 by=12 a=3"),
    (("turn", "room", 4, "of", 0), "turn room 4 of 0"),
    (("turn", "room", 4, "of", 190), "turn room 4 of 190"),
    (("turn", "room", 4, "of", None), "turn room 4 of -"),
    (("strike", "house", 8), "strike house 8"),
    (("look", 1, "spread of", (4,)), "look 1 spread of 4"),
    (("look", 0, "clear by", (17, 4)), "look 0 clear by 17 4"),
    (("look", 33, "fell house", (0, 2, 1)), "look 33 fell house 0 2 1"),
    (("do", 1), "do 1"), (("do", 0), "do 0"), (("stop", 1), "stop 1"), (("stop", 10), "stop 10"),
]
DEEDS = [deed for deed, line in LINES]
TEXT = "\n".join([line for deed, line in LINES])

NAME = "(?!strike(?![a-z]))[a-z]{1,8}"
NUMBER = "(?:0|[1-9][0-9]{0,29})"
PATTERNS = [
    f"put {NAME} {NUMBER}(?: {NAME}={NUMBER})*", f"turn {NAME} {NUMBER} {NAME} (?:{NUMBER}|-)",
    f"strike {NAME} {NUMBER}",
    f"look {NUMBER} (?:spread|clear|fell) {NAME}(?: {NUMBER})+", f"do {NUMBER}", f"stop {NUMBER}",
]


def as_lists(thing):
    return [as_lists(item) for item in thing] if isinstance(thing, (list, tuple)) else thing


def is_line(line):
    """A second reading of [31]: whether a deed has this line."""
    names = [word.split("=")[0] for word in line.split(" ")[3:]]
    if line.startswith("put ") and len(set(names)) < len(names):
        return False
    return any(re.fullmatch(pattern, line) for pattern in PATTERNS)


class WriteWeaving(Case):

    def test_each_deed(self):
        for deed, line in LINES:
            self.assertEqual(write_weaving([deed]), line)

    def test_several(self):
        self.assertEqual(write_weaving(DEEDS), TEXT)
        self.assertEqual(write_weaving([DEEDS[0], DEEDS[0]]), "put house 0\nput house 0")

    def test_no_deeds(self):
        self.assertEqual([write_weaving([]), write_weaving(())], ["", ""])

    def test_lists_for_tuples(self):
        self.assertEqual(write_weaving(as_lists(DEEDS)), TEXT)
        self.assertEqual(write_weaving(tuple(DEEDS)), TEXT)
        self.assertEqual(write_weaving((["put", "a", 0, (["p", 1], ("q", 2))],)), "put a 0 p=1 q=2")
        self.assertEqual(write_weaving([("look", 0, "fell a", [3, 1])]), "look 0 fell a 3 1")

    def test_owners_in_order(self):
        self.assertEqual(write_weaving([("put", "a", 0, (("z", 1), ("b", 2), ("y", 0)))]), "put a 0 z=1 b=2 y=0")

    def test_high_numbers(self):
        deeds = [("put", "a", HIGHEST, (("p", HIGHEST),)), ("look", HIGHEST, "fell a", (HIGHEST, 0, 10 ** 29))]
        nines, ten = "9" * 30, "1" + "0" * 29
        self.assertEqual(write_weaving(deeds), f"put a {nines} p={nines}\nlook {nines} fell a {nines} 0 {ten}")
        self.assertEqual(read_weaving(write_weaving(deeds)), deeds)

    def test_words_of_the_lines_as_names(self):
        deeds = [("put", "put", 0, (("do", 1),)), ("turn", "turn", 0, "look", None), ("strike", "stop", 0),
                 ("look", 0, "fell spread", (0,)), ("look", 0, "spread fell", (0,))]
        lines = ["put put 0 do=1", "turn turn 0 look -", "strike stop 0", "look 0 fell spread 0",
                 "look 0 spread fell 0"]
        self.assertEqual(write_weaving(deeds).split("\n"), lines)
        self.assertEqual(read_weaving("\n".join(lines)), deeds)

    def test_a_number_that_stands_twice_in_a_look(self):
        """Such a list has the form of [16], though no store takes it."""
        self.assertEqual(write_weaving([("look", 0, "fell a", (1, 1))]), "look 0 fell a 1 1")
        self.assertEqual(read_weaving("look 0 fell a 1 1"), [("look", 0, "fell a", (1, 1))])

    def test_what_is_no_list(self):
        for thing in odd_things() + [0, "do 1", "", {"do": 1}, {}, {0: DEEDS[0]}]:
            if not isinstance(thing, (list, tuple)):
                self.fails(BadWeaving(0), write_weaving, thing)

    def bad_deed(self, *deeds):
        for deed in deeds:
            for index in range(len(DEEDS) + 1):
                self.fails(BadWeaving(index), write_weaving, [*DEEDS[:index], deed, None, *DEEDS[index:]])
                self.fails(BadWeaving(index), write_weaving, tuple([*DEEDS[:index], as_lists(deed)]))

    def test_what_has_not_the_form(self):
        self.bad_deed(
            (), ("put",), ("put", "a", 0), ("put", "a", 0, (), ()), ("turn", "a", 0, "p"), ("turn", "a", 0, "p", 0, 0),
            ("strike", "a"), ("strike", "a", 0, 0), ("look", 0, "fell a"), ("look", 0, "fell a", (0,), 0), ("do",),
            ("do", 0, 0), ("stop",), ("stop", 0, 0), ("Do", 0), ("fell", 0), ("", 0), (None, 0), (0, "do"), (("do",),
                                                                                                             0),
        )
        for thing in [*odd_things(), 0, "do 0", "put a 0"]:
            self.fails(BadWeaving(1), write_weaving, [DEEDS[0], thing, None])

    def test_bad_owners_of_a_put(self):
        self.bad_deed(*[("put", "a", 0, owners) for owners in [
            None, 0, "p", "p=0", {"p": 0}, {}, ("p", 0), (("p",),), (("p", 0, 0),), (("p", None),), (("p", True),),
            (("p", -1),), (("p", "0"),), ((0, 0),), ((None, 0),), (("p", 0), ("p", 0)), (("p", 0), ("q", 1), ("p", 2)),
            (("p", 0), None), ((),), (("p", (0,)),),
        ]])

    def test_things_that_are_no_names(self):
        for thing in odd_things() + ["Aa", "a b", "a=", "a\n", "a1", "\u00e4", 0, 10 ** 20]:
            self.bad_deed(
                ("put", thing, 0, ()), ("put", "a", 0, ((thing, 0),)), ("put", "a", 0, (("p", 0), (thing, 0))),
                ("turn", thing, 0, "p", 0), ("turn", "a", 0, thing, None), ("strike", thing, 0),
            )

    def test_things_that_are_no_numbers(self):
        for thing in odd_things() + ["1", "0", -5]:
            self.bad_deed(
                ("put", "a", thing, ()), ("put", "a", 0, (("p", thing),)), ("turn", "a", thing, "p", 0),
                ("strike", "a", thing), ("look", thing, "fell a", (0,)), ("look", 0, "fell a", (thing,)),
                ("look", 0, "fell a", (1, thing)), ("do", thing), ("stop", thing),
            )
            if thing is not None:
                self.bad_deed(("turn", "a", 0, "p", thing))

    def test_pieces_that_are_none(self):
        bad = ["fell", "fell ", " fell a", "fell a ", "fell  a", "felll a", "Fell a", "a fell", "put a", "fell a b",
               "a",
               "fell A", "fell strike", "fell abcdefghi", "fell a1", "fell\ta", "fell-a", "spread", "strike a", 0,
               ("fell", "a"), ["fell a"], "spread 0", "clear \u00e4", "again a", "bare a"]
        self.bad_deed(*[("look", 0, piece, (0,)) for piece in odd_things() + bad])

    def test_a_look_without_numbers(self):
        self.bad_deed(*[("look", 0, "fell a", numbers) for numbers in [(), [], None, 0, "0", {0: 1}, {}, "", True]])

    def test_nothing_else_is_looked_at(self):
        """Rows, columns and hands that no store has."""
        deeds = [("do", 5), ("put", "none", 0, (("zero", 3),)), ("look", 0, "spread none", (9,)), ("stop", 5)]
        self.assertEqual(write_weaving(deeds), "do 5\nput none 0 zero=3\nlook 0 spread none 9\nstop 5")

    def test_the_weaving_stays(self):
        deeds = as_lists(DEEDS)
        write_weaving(deeds)
        self.assertEqual(deeds, as_lists(DEEDS))

    def test_by_name(self):
        self.assertEqual(write_weaving(weaving=DEEDS), TEXT)


class ReadWeaving(Case):

    def bad_at(self, index, *lines):
        self.fails(BadLine(index), read_weaving, "\n".join(lines))

    def bad_line(self, *lines):
        """Lines that no deed has, at each place."""
        good = TEXT.split("\n")
        for line in lines:
            self.assertFalse(is_line(line), line)
            self.bad_at(0, line, "")
            for at in (1, 5, len(good)):
                self.bad_at(at, *good[:at], line, *good[at:])
                self.bad_at(at, *good[:at], line)

    def test_each_deed(self):
        for deed, line in LINES:
            found = read_weaving(line)
            self.assertEqual(repr(found), repr([deed]))
            self.assertTrue(is_line(line))

    def test_several(self):
        self.assertEqual(repr(read_weaving(TEXT)), repr(DEEDS))

    def test_no_deeds(self):
        self.same_list(read_weaving(""), [])

    def test_what_is_returned_is_ones_own(self):
        read_weaving("").append(0)
        self.assertEqual(read_weaving(""), [])

    def test_empty_lines(self):
        good = TEXT.split("\n")
        self.bad_at(0, "", "")
        self.bad_at(0, "", "", "")
        for at in range(len(good) + 1):
            self.bad_at(at, *good[:at], "", *good[at:])

    def test_spaces(self):
        for deed, line in LINES:
            places = [place for place, letter in enumerate(line) if letter == " "]
            self.bad_line(" " + line, line + " ", "  " + line, line + "  ", "\t" + line, line + "\r", line + "\t")
            self.bad_line(*[line[:place] + " " + line[place:] for place in places])
            self.bad_line(*[line[:place] + "\t" + line[place + 1:] for place in places])
            self.bad_line(*[line[:place] + "\u00a0" + line[place + 1:] for place in places])
        self.bad_line(" ", "  ", "put room 4 of =0", "put room 4 of= 0", "put room 4 of = 0")

    def test_words_left_out(self):
        for deed, line in LINES:
            words = line.split(" ")
            for place in range(len(words)):
                left = " ".join(words[:place] + words[place + 1:])
                # Some of the owners of a put and of the numbers of a look.
                if not is_line(left):
                    self.bad_line(left)
                else:
                    self.assertIn(words[0], ("put", "look"))
        self.bad_line("put", "put room", "turn room 4 of", "turn room 4", "strike house", "strike", "look 1 fell house")
        self.bad_line("look 1 fell", "look 1", "look", "do", "stop", "look fell house 0", "look 1 house 0", "look 1 0")

    def test_words_put_in(self):
        self.bad_line("do 1 1", "do do 1", "stop 1 0", "strike house 0 0", "strike house house 0", "turn room 4 of 0 0")
        self.bad_line("turn room 4 of - -", "turn room 4 of=0", "turn room 4 of to 0", "put a room 4", "put room 4 5")
        self.bad_line("put room 4 of=0 5", "put room 4 of", "put room 4 of 0", "look 1 fell a house 0",
                      "look 1 2 fell a 0")
        self.bad_line("look 1 fell house 0 house", "look 1 fell house of=0", "do of=0", "put room 4 -",
                      "look 1 fell house -")

    def test_words_exchanged(self):
        self.bad_line("1 do", "put 4 room", "put room of=0 4", "turn 4 room of 0", "turn room of 4 0",
                      "turn room 4 0 of")
        self.bad_line("strike 8 house", "look fell house 1 0", "look 1 house fell 0", "look 1 fell 0 house",
                      "house strike 8")
        self.bad_line("look 1 0 fell house", "fell 1 look house 0")

    def test_words_that_are_none(self):
        self.bad_line("Do 1", "doo 1", "d 1", "done 1", "fell house", "undo 1", "PUT room 4", "turns room 4 of 0", "1",
                      "-")
        self.bad_line("look 1 Fell house 0", "look 1 felled house 0", "look 1 put house 0", "look 1 strike house 0")
        self.bad_line("put Room 4", "put room1 4", "put abcdefghi 4", "put strike 4", "put room 4 strike=0", "put - 4")
        self.bad_line("turn strike 4 of 0", "turn room 4 strike 0", "turn room 4 Of 0", "strike strike 0",
                      "put room 4 OF=0")
        self.bad_line("look 1 fell strike 0", "look 1 fell House 0", "look 1 fell abcdefghi 0", "put \u00e4 4",
                      "# do 1")
        self.bad_line("None", "turn room 4 of None", "turn room 4 of nothing", "put room 4 of=-", "put room 4 of=None")

    def test_numbers(self):
        bad = ["00", "01", "007", "000", "+1", "-1", "+0", "-0", "--", "1.0", "1e3", "0x1", "1_0", "1,0", "a", "1a",
               "a1",
               "\u0661", "\u00b2", "\u0967", "0\u0661", "\uff11", "True", "0 ", " 0", "1\n0", ""]
        for word in bad:
            if "\n" not in word:
                self.bad_line(
                    f"put room {word}", f"put room 4 of={word}", f"put room 4 of=0 by={word}", f"turn room {word} of 0",
                    f"turn room 4 of {word}", f"strike room {word}", f"look {word} fell room 0",
                    f"look 0 fell room {word}",
                    f"look 0 fell room 3 {word}", f"do {word}", f"stop {word}",
                )
        self.bad_line("put room - of=0", "turn room - of 0", "strike room -", "look - fell room 0", "do -", "stop -")
        for number in (0, 1, 9, 10, 100, 10 ** 29, HIGHEST):
            found = read_weaving(f"put room {number} of={number}\nturn room {number} of {number}\ndo {number}")
            wanted = [("put", "room", number, (("of", number),)), ("turn", "room", number, "of", number), ("do",
                                                                                                           number)]
            self.assertEqual(repr(found), repr(wanted))

    def test_owners(self):
        self.bad_line("put room 4 of==0", "put room 4 =0", "put room 4 of=", "put room 4 =", "put room 4 of=0=0")
        self.bad_line("put room 4 of=0by=1", "put room 4 of=0,by=1", "put room 4 0=of", "put room 4 of:0",
                      "put room 4 3=0")
        self.bad_line("put room 4 of=0 of=0", "put room 4 of=0 of=1", "put room 4 of=0 by=1 of=2", "put room=4",
                      "put=room 4")
        self.assertEqual(read_weaving("put room 4 z=0 of=1"), [("put", "room", 4, (("z", 0), ("of", 1)))])

    def test_a_column_twice_in_unlike_puts(self):
        self.assertEqual(len(read_weaving("put room 4 of=0\nput room 5 of=0")), 2)

    def test_other_ends_of_lines(self):
        for end in ("\r", "\r\n", "\f", "\x0b", "\x1c", "\x85", "\u2028"):
            self.fails(BadLine(0), read_weaving, "do 1" + end + "do 2")
        self.fails(BadLine(1), read_weaving, "do 1\n")
        self.fails(BadLine(2), read_weaving, "do 1\nstop 2\n")

    def test_the_first_of_several(self):
        self.bad_at(1, "do 1", "do", "stop", "")
        self.bad_at(2, "do 1", "do 1", "", "do", "do 01")

    def test_by_name(self):
        self.assertEqual(read_weaving(text=TEXT), DEEDS)
        self.fails(BadLine(0), read_weaving, text=" ")

    def test_what_is_written(self):
        chance = random.Random(311)
        for _ in range(60):
            book = drawn_book(chance)
            deeds = [drawn_deed(chance, Store(book)) for _ in range(20)]
            self.assertEqual(repr(read_weaving(write_weaving(deeds))), repr(deeds))

    def test_weavings_of_judgements(self):
        chance = random.Random(312)
        for _ in range(20):
            book = drawn_book(chance)
            for question in book.questions():
                word, shown = judge(book, question)
                if word == "once":
                    found = read_weaving(write_weaving(shown))
                    self.assertEqual(repr(found), repr(shown))
                    self.assertEqual(played(book, found), played(book, shown))

    def test_weavings_that_are_done(self):
        book = Book([("a", True)], [("p", "a", "a", "fall")])
        text = "put a 0\nput a 1 p=0\nstrike a 0\nlook 0 spread p 1\ndo 0\nturn a 1 p -\nlook 3 fell a 1 0\nstop 3"
        store = Store(book, 2)
        for deed in read_weaving(text):
            self.assertTrue(is_done(store, deed))
        self.assertEqual(store.rows("a"), [(0, {"p": None}, "strike"), (1, {"p": None}, "p")])

    def test_changed_lines(self):
        """Lines with a letter left out, put in or exchanged."""
        chance = random.Random(313)
        letters = "abz09=- \u0663AS"
        seen = {True: 0, False: 0}
        for _ in range(12000):
            line = chance.choice(LINES)[1]
            for _ in range(chance.randint(1, 2)):
                at = chance.randrange(len(line) + 1)
                line = line[:at] + chance.choice(["", *letters]) + line[at + chance.randint(0, 1):]
            try:
                found = read_weaving(line + "\ndo 0")
                self.assertEqual(write_weaving(found), line + "\ndo 0")
            except BadLine as error:
                found = error.index
            self.assertEqual(found != 0, is_line(line), line)
            seen[is_line(line)] += 1
        self.assertTrue(all(many > 700 for many in seen.values()), seen)


if __name__ == "__main__":
    unittest.main()
