import math
import unittest

import plainly
import plainmending
import plainwheels
from plainly import table
from plaintexts import ODD_TEXTS, PlainDesk, show, show_wheel
from plainwheels import EIGHT, FIFTEEN, GREAT, NINE, SIX, SMALL

from roundwords.alls import all_wheels
from roundwords.bounds import best_row, best_wide
from roundwords.desk import Desk
from roundwords.errors import NoLine, NoText
from roundwords.facing import facing
from roundwords.fewer import few_of, traced_of
from roundwords.leasts import counts, least
from roundwords.lost import mended_lost
from roundwords.mending import mended
from roundwords.owns import own_word
from roundwords.turns import turned_by
from roundwords.words import checker, free, is_word, made, maker

SEVEN = ((2, 3, 3), 1, 2)
HAMMING = "2.3.3/1/2/1.2.4"
ALONE = ["wheel", "maker", "checker", "free", "row", "least", "counts", "own", "wide", "face", "back"]
FOUR = ((2, 4, 3), 4, 2)


def length(wheel):
    return plainwheels.length(wheel[0], wheel[2])


def some_wheels():
    """Wheels of small roots, and some of longer ones."""
    found = [wheel for base in SMALL for wheel in plainmending.some(sorted(plainwheels.wheels(*base)), 6)]
    for base in (SIX, EIGHT, NINE, FIFTEEN):
        found += plainmending.some(sorted(plainwheels.wheels(*base)), 7)
    return found


class Checks(unittest.TestCase):
    def refuses(self, desk, line, where=None):
        """That the line is refused with NoLine and changes nothing."""
        ahead = desk.say("wheel")
        with self.assertRaises(NoLine, msg=where) as kept:
            desk.say(line)
        self.assertIs(type(kept.exception), NoLine)
        self.assertEqual(desk.say("wheel"), ahead)

    def tells(self, desk, line, asked):
        for _ in range(2):
            told = desk.say(line)
            self.assertIs(type(told), str)
            self.assertEqual(told, asked, (desk.say("wheel"), line))


class Made(Checks):
    def test_of_a_wheels_text(self):
        for wheel in some_wheels():
            self.tells(Desk(show_wheel(wheel)), "wheel", show_wheel(wheel))

    def test_of_anything(self):
        things = [thing for thing in plainly.anything()] + ODD_TEXTS
        things += [b"2.3.3/1/2/-", [HAMMING], (HAMMING,), SEVEN + ((),), "2.3.3/1/2/1", "2.3.0/1/2/-", "2.3.3/2/2/-", "2.3.3"]
        for at, thing in enumerate(things):
            with self.assertRaises(NoText, msg=at) as kept:
                Desk(thing)
            self.assertIs(type(kept.exception), NoText)


class Tells(Checks):
    def test_lines_of_one_word(self):
        for wheel in some_wheels():
            desk = Desk(show_wheel(wheel))
            self.tells(desk, "wheel", show_wheel(wheel))
            self.tells(desk, "maker", show(maker(wheel)))
            self.tells(desk, "checker", show(checker(wheel)))
            self.tells(desk, "free", str(free(wheel)))
            first, step, many = best_row(wheel)
            self.tells(desk, "row", f"{first} {step} {many} {many + 1}")
            self.tells(desk, "own", show(own_word(wheel)))

    def test_least_and_counts(self):
        for wheel in some_wheels():
            desk = Desk(show_wheel(wheel))
            if (wheel[0][0] ** wheel[1]) ** free(wheel) > 4096:
                self.tells(desk, "least", "great")
                self.tells(desk, "counts", "great")
                continue
            found = least(wheel)
            self.tells(desk, "least", "none" if found is None else f"{found[0]} {show(found[1])}")
            self.tells(desk, "counts", show(counts(wheel)))

    def test_wide(self):
        for wheel in some_wheels():
            found = best_wide(wheel)
            asked = "none"
            if found is not None:
                first, step, many, far, often = found
                asked = f"{first} {step} {many} {far} {often} {many + 1 + often}"
            self.tells(Desk(show_wheel(wheel)), "wide", asked)

    def test_great_ones(self):
        desk = Desk(show_wheel(GREAT + ((),)))
        for line in ("least", "counts", "wide"):
            self.tells(desk, line, "great")
        desk = Desk(show_wheel(FIFTEEN + ((5, 10),)))
        self.tells(desk, "least", "great")
        self.tells(desk, "counts", "great")
        self.assertNotEqual(desk.say("wide"), "great")
        # One more ring of marks, and there are just 4096 words.
        desk = Desk(show_wheel(FIFTEEN + ((0, 5, 10),)))
        self.assertEqual(desk.say("least").split(" ")[0], "2")
        self.assertEqual(sum(map(int, desk.say("counts").split("."))), 4096)
        sixteen = ((17, 1, 0), 1, 3)
        self.assertEqual(length(sixteen), 16)
        desk = Desk(show_wheel(sixteen + ((),)))
        self.tells(desk, "wide", "great")

    def test_none_and_no(self):
        for base in SMALL:
            n = length(base)
            desk = Desk(show_wheel(base + (tuple(range(n)),)))
            self.tells(desk, "least", "none")
            self.tells(desk, "free", "0")
            self.tells(desk, "made -", show((0,) * n))
            self.tells(desk, "word " + show((1,) * n), "no")
            self.tells(desk, "word " + show((0,) * n), "yes")
            desk = Desk(show_wheel(base + ((),)))
            self.tells(desk, "wide", "none")
            self.tells(desk, "word " + show((1,) * n), "yes")

    def test_made_and_word(self):
        draw = plainmending.drawer(101)
        for wheel in some_wheels():
            desk = Desk(show_wheel(wheel))
            own = table(wheel[0]).letters(wheel[1])
            for _ in range(4):
                given = plainmending.drawn(draw, own, free(wheel))
                word = made(wheel, given)
                self.tells(desk, "made " + show(given), show(word))
                self.tells(desk, "word " + show(word), "yes")
                other = plainmending.drawn(draw, own, length(wheel))
                self.tells(desk, "word " + show(other), "yes" if is_word(wheel, other) else "no")

    def test_mend_and_lost(self):
        draw = plainmending.drawer(102)
        seen = {"none": 0, "word": 0, "refused": 0}
        for wheel in some_wheels() + [wheel for wheel, _ in plainmending.LONG[:5]]:
            desk = Desk(show_wheel(wheel))
            own = table(wheel[0]).letters(wheel[1])
            n = length(wheel)
            paper = best_row(wheel)
            for many in (0, 1, 2, 3):
                word = plainmending.drawn_word(draw, wheel)
                chosen = draw.sample(range(n), min(n, many))
                got = plainmending.spoilt(draw, own, word, chosen)
                found = mended(wheel, paper, got)
                self.tells(desk, "mend " + show(got), "none" if found is None else show(found))
                lost = tuple(sorted(chosen))
                if len(lost) > paper[2]:
                    asked = "none"
                    seen["refused"] += 1
                else:
                    self.assertEqual(mended_lost(wheel, paper, got, lost), word)
                    asked = show(word)
                    seen["word"] += 1
                self.tells(desk, f"lost {show(lost)} {show(got)}", asked)
                other = tuple(sorted(draw.sample(range(n), min(n, paper[2] // 2))))
                found = mended_lost(wheel, paper, got, other)
                seen["none"] += found is None
                self.tells(desk, f"lost {show(other)} {show(got)}", "none" if found is None else show(found))
        self.assertTrue(min(seen.values()) > 20, seen)

    def test_by_hand(self):
        desk = Desk(HAMMING)
        for line, asked in [("wheel", HAMMING), ("maker", "1.1.0.1"), ("checker", "1.1.1.0.1"), ("free", "4"),
                            ("made 1.0.0.0", "1.1.0.1.0.0.0"), ("word 1.1.0.1.0.0.0", "yes"), ("word 1.1.0.1.0.0.1", "no"),
                            ("row", "1 1 2 3"), ("least", "3 0.0.0.1.1.0.1"), ("counts", "1.0.0.7.7.0.0.1"),
                            ("mend 1.1.0.1.0.1.0", "1.1.0.1.0.0.0"), ("lost 0.1 0.0.0.1.0.0.0", "1.1.0.1.0.0.0"),
                            ("lost - 1.1.0.1.0.1.0", "1.1.0.1.0.0.0"), ("lost 0.1.2 0.0.0.1.0.0.0", "none"),
                            ("lost 0 0.0.0.1.0.0.0", "none"), ("own", "0.1.1.0.1.0.0"), ("wide", "1 1 1 1 1 3"),
                            ("back", "none")]:
            self.tells(desk, line, asked)


class Changes(Checks):
    def change(self, desk, line, asked):
        """That the line is done and makes this wheel."""
        told = desk.say(line)
        self.assertEqual(told, "done", line)
        self.assertEqual(desk.say("wheel"), show_wheel(asked), line)

    def test_turn_and_face(self):
        for wheel in some_wheels():
            n = length(wheel)
            for a in range(n + 3):
                desk = Desk(show_wheel(wheel))
                if 1 <= a <= n and math.gcd(a, n) == 1:
                    self.change(desk, f"turn {a}", turned_by(wheel, a))
                    self.change(desk, "back", wheel)
                else:
                    self.refuses(desk, f"turn {a}")
                    self.tells(desk, "back", "none")
            desk = Desk(show_wheel(wheel))
            self.change(desk, "face", facing(wheel))
            self.change(desk, "face", wheel)
            self.change(desk, "back", facing(wheel))

    def test_few_and_trace(self):
        draw = plainmending.drawer(103)
        for base in [FOUR, ((2, 4, 3), 2, 8), ((2, 6, 3), 6, 2), ((2, 6, 3), 3, 2), ((2, 6, 3), 2, 2), ((3, 2, 2), 2, 4), SEVEN]:
            n = length(base)
            sets = plainwheels.ring_sets(n, base[0][0] ** base[1])
            for many in (0, 1, len(sets) // 2, len(sets)):
                wheel = base + (tuple(sorted(i for ring in draw.sample(sets, many) for i in ring)),)
                for fewer in range(base[1] + 3):
                    desk = Desk(show_wheel(wheel))
                    for name, what in (("few", few_of), ("trace", traced_of)):
                        if fewer and base[1] % fewer == 0:
                            self.change(desk, f"{name} {fewer}", what(wheel, fewer))
                            self.change(desk, "back", wheel)
                        else:
                            self.refuses(desk, f"{name} {fewer}")

    def test_marks(self):
        for base in [SEVEN, FIFTEEN, ((2, 2, 3), 2, 3), ((2, 1, 0), 1, 1)]:
            for wheel in plainmending.some(all_wheels(*base), 9):
                desk = Desk(show_wheel(wheel))
                for other in plainmending.some(all_wheels(*base), 9):
                    self.change(desk, "marks " + show(other[3]), other)
        desk = Desk(HAMMING)
        for marks in ("1", "1.2", "2.1.4", "4.2.1", "1.1.2.4", "1.2.4.7", "7", "0.0", "1.2.4.", "1.2.3.4", "1000000000", "",
                      "01.2.4", "1,2,4", "-1", "--", "1.2.4 ", "()", "1.2.4\n"):
            self.refuses(desk, "marks " + marks)
        self.tells(desk, "back", "none")

    def test_back_again_and_again(self):
        draw = plainmending.drawer(104)
        desk = Desk(show_wheel(FOUR + ((1, 2),)))
        texts = []
        for k in range(450):
            ahead = desk.say("wheel")
            line = draw.choice(["turn 2", "turn 7", "turn 1", "face", "marks 1.4", "marks -", "marks 3", "marks 0.1", "few 4",
                                "trace 4"] if k < 440 else ["trace 2", "few 2", "face", "few 1", "turn 4", "marks -"])
            try:
                self.assertEqual(desk.say(line), "done")
                texts.append(ahead)
            except NoLine:
                self.assertEqual(desk.say("wheel"), ahead)
        self.assertGreater(len(texts), 420)
        while texts:
            self.assertEqual(desk.say("back"), "done")
            self.assertEqual(desk.say("wheel"), texts.pop())
        for _ in range(3):
            self.tells(desk, "back", "none")
            self.tells(desk, "wheel", show_wheel(FOUR + ((1, 2),)))

    def test_changes_that_leave_the_wheel_are_taken_back_one_by_one(self):
        desk = Desk(HAMMING)
        for _ in range(3):
            self.assertEqual(desk.say("turn 1"), "done")
            self.assertEqual(desk.say("marks 1.2.4"), "done")
            self.assertEqual(desk.say("few 1"), "done")
        for _ in range(9):
            self.assertEqual(desk.say("back"), "done")
        self.assertEqual(desk.say("back"), "none")

    def test_back_behind_a_change_behind_back(self):
        desk = Desk(HAMMING)
        self.change(desk, "marks 0", SEVEN + ((0,),))
        self.change(desk, "marks -", SEVEN + ((),))
        self.change(desk, "back", SEVEN + ((0,),))
        self.change(desk, "marks 3.5.6", SEVEN + ((3, 5, 6),))
        self.change(desk, "back", SEVEN + ((0,),))
        self.change(desk, "back", SEVEN + ((1, 2, 4),))
        self.tells(desk, "back", "none")

    def test_lines_that_tell_are_not_taken_back(self):
        desk = Desk(HAMMING)
        desk.say("face")
        for line in ("wheel", "row", "least", "word 0.0.0.0.0.0.0", "own"):
            desk.say(line)
        self.change(desk, "back", SEVEN + ((1, 2, 4),))

    def test_two_desks_side_by_side(self):
        one, other, third = Desk(HAMMING), Desk(HAMMING), Desk("2.2.3/2/3/0")
        one.say("face")
        self.tells(other, "wheel", HAMMING)
        self.tells(other, "back", "none")
        other.say("marks 0")
        third.say("turn 2")
        self.tells(one, "wheel", "2.3.3/1/2/0.1.2.4")
        self.tells(other, "wheel", "2.3.3/1/2/0")
        self.tells(third, "wheel", "2.2.3/2/3/0")
        self.assertEqual(one.say("back"), "done")
        self.tells(one, "wheel", HAMMING)
        self.tells(other, "wheel", "2.3.3/1/2/0")
        self.assertEqual(one.say("back"), "none")
        self.assertEqual(other.say("back"), "done")
        self.assertEqual(third.say("back"), "done")


class NoLines(Checks):
    def test_what_is_no_text(self):
        desk = Desk(HAMMING)
        desk.say("face")
        for at, thing in enumerate(plainly.anything()):
            self.refuses(desk, thing, at)
        for thing in (["wheel"], ("wheel",), ("face",), {"wheel": 1}, {"back"}, b"wheel", b"back", ["turn", 3], ("turn", "3"),
                      True, 3):
            self.refuses(desk, thing)
        self.assertEqual(desk.say("back"), "done")
        self.tells(desk, "wheel", HAMMING)

    def test_odd_texts(self):
        desk = Desk(HAMMING)
        for text in ODD_TEXTS:
            self.refuses(desk, text, text)
            for name in ALONE:
                for line in (f"{name} {text}", f"{text} {name}", f"{name}{text}" if text else f" {name}"):
                    self.refuses(desk, line, line)
            for name in ("turn", "few", "trace", "made", "word", "mend", "marks", "lost"):
                self.refuses(desk, f"{name} {text}", (name, text))
            self.refuses(desk, f"lost {text} 0.0.0.0.0.0.0", text)
            self.refuses(desk, f"lost 0 {text}", text)
        self.tells(desk, "back", "none")

    def test_blanks_and_great_letters(self):
        desk = Desk(HAMMING)
        good = ALONE[:-1] + ["turn 3", "few 1", "trace 1", "marks 0", "made 1.0.0.0", "word 0.0.0.0.0.0.0",
                             "mend 0.0.0.0.0.0.0", "lost 0 0.0.0.0.0.0.0"]
        for line in good + ["back"]:
            for odd in (" " + line, line + " ", "  " + line, line + "  ", line + "\n", "\n" + line, line + "\t", line.upper(),
                        line.title(), line + " " + line, line + line, line + " 0", line + " -", line.replace(" ", "  "),
                        line.replace(" ", "\t"), line.replace(" ", "\u00a0"), line.replace(" ", ""), line + "."):
                if odd != line:
                    self.refuses(desk, odd, odd)
        for line in good:
            self.assertIs(type(Desk(HAMMING).say(line)), str)

    def test_words_too_few(self):
        desk = Desk(HAMMING)
        for line in ("turn", "few", "trace", "marks", "made", "word", "mend", "lost", "lost 0", "lost 0.0.0.0.0.0.0", "turn ",
                     "lost  0.0.0.0.0.0.0", "lost 0 "):
            self.refuses(desk, line, line)

    def test_numbers_that_are_not_so(self):
        desk = Desk(HAMMING)
        for line in ("turn 0", "turn 7", "turn 8", "turn 14", "turn 01", "turn 03", "turn -", "turn 3.5", "turn -1", "turn +3",
                     "turn 1000000000", "turn 10000000000", "few 0", "few 2", "few 3", "few 01", "few -", "few 1.1", "trace 0",
                     "trace 2", "trace 3", "trace -", "trace 00", "trace 1.1"):
            self.refuses(desk, line, line)
        desk = Desk(show_wheel(FOUR + ((1, 2),)))
        for line in ("turn 3", "turn 5", "turn 6", "turn 15", "turn 16", "turn 0", "few 3", "few 0", "few 8", "few 5", "few 02",
                     "trace 3", "trace 8"):
            self.refuses(desk, line, line)
        # Of a wheel of one letter the one turn is by 1.
        desk = Desk("2.1.0/1/1/0")
        self.refuses(desk, "turn 0")
        self.refuses(desk, "turn 2")
        self.assertEqual(desk.say("turn 1"), "done")

    def test_letters_that_are_not_so(self):
        desk = Desk(HAMMING)
        for line in ("made 1.0.0", "made 1.0.0.0.0", "made -", "made 2.0.0.0", "made 0.0.0.7", "made 1.0.0.01", "made 0.0.0.-1",
                     "word 0.0.0.0.0.0", "word 0.0.0.0.0.0.0.0", "word 0.0.0.0.0.0.2", "word 8.0.0.0.0.0.0", "word -",
                     "word 00.0.0.0.0.0.0", "mend 0.0.0.0.0.0", "mend 0.0.0.0.0.0.0.0", "mend 3.0.0.0.0.0.0", "mend -",
                     "lost 0 0.0.0.0.0.0", "lost 0 0.0.0.0.0.0.0.0", "lost 0 0.0.0.4.0.0.0", "lost 0 -", "lost - -",
                     "lost 0.1.2.3 0.0.0.0.0.0", "lost 0.1.2.3 2.0.0.0.0.0.0"):
            self.refuses(desk, line, line)
        # The letters are those by few, not all things.
        desk = Desk("2.4.3/2/8/1.4")
        for thing in range(18):
            line = f"word 0.0.{thing}.0.0"
            if thing in (0, 1, 6, 7):
                self.assertIn(desk.say(line), ("yes", "no"))
            else:
                self.refuses(desk, line)

    def test_places_that_are_not_so(self):
        desk = Desk(HAMMING)
        for text in ("7", "0.7", "1.0", "0.0", "2.1.3", "6.5", "1000000000", "01", "0.1.", "-1", "0.1.2.3.4.5.6.7", "6.6.6.6"):
            self.refuses(desk, f"lost {text} 0.0.0.0.0.0.0", text)
        self.tells(desk, "lost 0.1.2.3.4.5.6 0.0.0.0.0.0.0", "none")
        self.tells(desk, "lost 6 0.0.0.0.0.0.0", "0.0.0.0.0.0.0")

    def test_letters_follow_the_wheel(self):
        desk = Desk("2.3.3/3/2/1.2")
        self.tells(desk, "made 7.0.0.0.3", show(made(((2, 3, 3), 3, 2, (1, 2)), (7, 0, 0, 0, 3))))
        self.assertEqual(desk.say("few 1"), "done")
        self.refuses(desk, "made 7.0.0.0")
        self.refuses(desk, "made 7.0.0.0.3")
        self.tells(desk, "made 1.0.0.0", "1.1.0.1.0.0.0")
        self.refuses(desk, "few 3")
        self.assertEqual(desk.say("back"), "done")
        self.tells(desk, "made 7.0.0.0.3", show(made(((2, 3, 3), 3, 2, (1, 2)), (7, 0, 0, 0, 3))))


class Drawn(Checks):
    """Long talks with a desk, each line held against one that is read by patterns."""

    def line(self, draw, wheel):
        n = length(wheel)
        own = table(wheel[0]).letters(wheel[1])
        sets = plainwheels.ring_sets(n, wheel[0][0] ** wheel[1])
        rings = draw.sample(sets, draw.randrange(len(sets) + 1))
        marks = show(tuple(sorted(i for ring in rings for i in ring)))
        letters = show(plainmending.drawn(draw, own, draw.choice([n, n, n, n, free(wheel), n + 1])))
        given = show(plainmending.drawn(draw, own, free(wheel)))
        places = show(tuple(sorted(draw.sample(range(n), draw.randrange(n + 1)))))
        return draw.choice([
            draw.choice(ALONE[:-2]), "face", "back", f"turn {draw.randrange(n + 2)}", f"few {draw.choice([1, 2, 3, wheel[1]])}",
            f"trace {draw.choice([1, 2, 4, wheel[1]])}", f"marks {marks}", f"marks {places}", f"made {letters}", f"made {given}",
            f"word {letters}", f"mend {letters}", f"lost {places} {letters}", f"lost {places} {places}", "lost", "turn x",
        ])

    def talk(self, wheel, many, draw):
        desk, plain = Desk(show_wheel(wheel)), PlainDesk(wheel)
        for _ in range(many):
            line = self.line(draw, plain.wheels[-1])
            asked = plain.say(line)
            if asked is None:
                self.refuses(desk, line, line)
            else:
                told = desk.say(line)
                self.assertIs(type(told), str)
                self.assertEqual(told, asked, line)
            self.assertEqual(desk.say("wheel"), show_wheel(plain.wheels[-1]), line)

    def test_talks(self):
        draw = plainmending.drawer(105)
        for wheel in [SEVEN + ((1, 2, 4),), ((2, 2, 3), 2, 3, (0,)), ((2, 4, 3), 2, 8, (1, 4)), ((2, 1, 0), 1, 1, ()),
                      ((2, 3, 3), 3, 2, (1, 2, 3, 4)), ((3, 2, 2), 2, 3, (1, 2)), ((7, 1, 0), 1, 3, (0, 1, 2)),
                      ((5, 1, 0), 1, 3, (0, 1)), EIGHT + ((2, 6),)]:
            self.talk(wheel, 120, draw)


if __name__ == "__main__":
    unittest.main()
