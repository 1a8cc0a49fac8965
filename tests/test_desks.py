"""15.1 and 15.2: the desk."""

import unittest
from fractions import Fraction

from cornerbids.corners import all_lots, corner
from cornerbids.desks import Desk
from cornerbids.errors import (BadRule, BadText, BidError, NoBids, NoName, NoneLed, NoNumber, NoSchedule, NothingDone, NoTurn,
                               NoWishes, NoWord, OtherPeople)
from cornerbids.outcomes import outcome, sides
from cornerbids.rules import Rule, value
from cornerbids.sittings import Sitting
from cornerbids.texts import rule_text
from tests.grammar import bad_at, is_number_text
from tests.things import MEAN2, ODD, chance, numbers, rule
from tests.test_plays import schedule_of

MEAN = "rule mean 2 mean(1*b0, 1*b1)"
LEAST = "rule least 2 least(b0, b1)"
# A line of each form, right for a desk with a rule called a of two people, and a sitting under way.
LINES = ["rule b 1 b0", "drop a", "names", "show a", "outcome a 0,1/2", "value a 0,1/2", "corners a", "alike a a", "sides a 0,1/2",
         "sit a 0,1/2 0,1", "bid 1/2", "now", "undo"]


def desk_with(*lines):
    desk = Desk()
    for line in lines:
        desk.tell(line)
    return desk


def led_desk():
    return desk_with("rule a 2 mean(1*b0, 1*b1)", "sit a 1/4,3/4 0,1,0")


def number_text(number):
    return str(Fraction(*number))


def numbers_text(row):
    return ",".join(number_text(number) for number in row)


def persons_text(persons):
    return ",".join(str(person) for person in persons) or "-"


def shown(desk):
    """All that a desk tells of itself."""
    names = desk.tell("names").split(" ")
    found = [names, desk.undoable()]
    if names != ["none"]:
        found.extend(desk.tell("show " + name) for name in names)
    try:
        found.append(desk.tell("now"))
    except NoneLed:
        found.append(None)
    return found


class TestRules(unittest.TestCase):
    def test_an_empty_desk(self):
        desk = Desk()
        self.assertEqual(desk.tell("names"), "none")
        self.assertEqual(desk.undoable(), 0)

    def test_keep_show_and_drop(self):
        desk = Desk()
        self.assertEqual(desk.tell(MEAN), "ok")
        self.assertEqual(desk.tell("rule b 1 between(0, 1/2; b0)"), "ok")
        self.assertEqual(desk.tell("rule abc 1 b0"), "ok")
        self.assertEqual(desk.tell("names"), "abc b mean")
        self.assertEqual(desk.tell("show mean"), "2 mean(1*b0, 1*b1)")
        self.assertEqual(desk.tell("show b"), "1 between(0, 1/2; b0)")
        self.assertEqual(desk.tell("drop b"), "ok")
        self.assertEqual(desk.tell("names"), "abc mean")
        self.assertRaises(NoName, desk.tell, "show b")

    def test_in_the_place_of_an_elder_one(self):
        desk = desk_with("rule a 1 b0", "rule a 2 least(b0, b1)")
        self.assertEqual(desk.tell("names"), "a")
        self.assertEqual(desk.tell("show a"), "2 least(b0, b1)")

    def test_names_of_one_letter_of_eight_and_of_nine(self):
        desk = Desk()
        for name in ("a", "z", "abcdefgh", "zzzzzzzz", "rule", "names", "undo", "none"):
            self.assertEqual(desk.tell(f"rule {name} 1 b0"), "ok")
            self.assertEqual(desk.tell(f"show {name}"), "1 b0")
        self.assertEqual(desk.tell("names"), "a abcdefgh names none rule undo z zzzzzzzz")
        for name in ("", "abcdefghi", "A", "aB", "a1", "1", "a_b", "a-b", "a.b", "a\tb", "\t"):
            for line in (f"rule {name} 1 b0", f"drop {name}", f"show {name}", f"outcome {name} 1", f"alike a {name}", f"alike {name} a",
                         f"sit {name} 1 0"):
                self.assertRaises(NoWord, desk.tell, line)


class TestQuestions(unittest.TestCase):
    def test_ordinary_ones(self):
        desk = desk_with(MEAN, LEAST, "rule half 2 least(b0, greatest(b1, 1/2))")
        self.assertEqual(desk.tell("outcome mean 0,1"), "1/2")
        self.assertEqual(desk.tell("outcome least 0,1"), "0")
        self.assertEqual(desk.tell("outcome least 1,1"), "1")
        self.assertEqual(desk.tell("value mean 0,1/2"), "1/4")
        self.assertEqual(desk.tell("corners mean"), "0 1/2 1/2 1")
        self.assertEqual(desk.tell("corners half"), "0 1/2 0 1")
        self.assertEqual(desk.tell("alike mean least"), "no")
        self.assertEqual(desk.tell("alike mean mean"), "yes")
        self.assertEqual(desk.tell("sides mean 0,1"), "0 - 1")
        self.assertEqual(desk.tell("sides mean 1/2,1/2"), "- 0,1 -")
        self.assertEqual(desk.tell("sides least 0,1"), "- 0 1")

    def test_of_all_rules(self):
        rng = chance(311)
        for _ in range(60):
            made = rule(rng)
            desk = desk_with("rule r " + rule_text(made))
            row = numbers(rng, made.people, 20)
            self.assertEqual(desk.tell("show r"), rule_text(made))
            self.assertEqual(desk.tell(f"outcome r {numbers_text(row)}"), number_text(outcome(made, row)))
            self.assertEqual(desk.tell(f"value r {numbers_text(row)}"), number_text(value(made, row)))
            told = " ".join(number_text(corner(made, lot)) for lot in all_lots(made.people))
            self.assertEqual(desk.tell("corners r"), told)
            told = " ".join(persons_text(lot) for lot in sides(made, row))
            self.assertEqual(desk.tell(f"sides r {numbers_text(row)}"), told)

    def test_corners_are_ordered_by_how_many_they_are(self):
        desk = desk_with("rule a 3 mean(1*b0, 2*b1, 4*b2)")
        self.assertEqual(desk.tell("corners a"), "0 1/7 2/7 4/7 3/7 5/7 6/7 1")

    def test_rules_that_play_alike(self):
        desk = desk_with(MEAN, "rule a 2 ranked(2; b0, b1, 1/2)", "rule b 3 b0")
        self.assertEqual(desk.tell("alike mean a"), "yes")
        self.assertEqual(desk.tell("alike a mean"), "yes")
        self.assertRaises(OtherPeople, desk.tell, "alike a b")

    def test_numbers_of_any_digits(self):
        desk = desk_with("rule a 1 b0", MEAN)
        for digits in (8, 200, 5000, 12000):
            for number in ("1/1" + "0" * digits, "9" * digits + "/1" + "0" * digits, "1/" + "7" * digits):
                self.assertEqual(desk.tell(f"value a {number}"), number)
                self.assertEqual(desk.tell(f"outcome a {number}"), number)
                self.assertEqual(desk.tell(f"sit a {number} 0,0"), "ok")
                self.assertEqual(desk.tell(f"bid {number}"), "ok")
                self.assertEqual(desk.tell("now"), f"0 {number}")
                self.assertRaises(NoWishes, desk.tell, f"outcome a {number}/")
                self.assertRaises(NoWishes, desk.tell, f"outcome a 0{number}")
        # The numbers of a rule's text are not of any digits.
        self.assertRaises(BadText, desk.tell, "rule b 1 1/12345678")
        self.assertEqual(desk.tell("value mean 1/12345678,1/12345678"), "1/12345678")

    def test_questions_are_not_undoable(self):
        desk = led_desk()
        before = shown(desk)
        for line in LINES:
            if line.split(" ")[0] in ("names", "show", "outcome", "value", "corners", "alike", "sides", "now"):
                desk.tell(line)
        self.assertEqual(shown(desk), before)
        self.assertEqual(desk.undoable(), 2)


class TestLeading(unittest.TestCase):
    def test_a_sitting_to_its_end(self):
        desk = led_desk()
        sitting = Sitting(MEAN2, ((1, 4), (3, 4)), (0, 1, 0))
        self.assertEqual(desk.tell("now"), "0 1/2")
        for bid in ((1, 3), (0, 1), (1, 1)):
            self.assertEqual(desk.tell("bid " + number_text(bid)), "ok")
            sitting.bid(bid)
            speaker = "none" if sitting.speaker() is None else str(sitting.speaker())
            self.assertEqual(desk.tell("now"), speaker + " " + number_text(sitting.foreseen()))
        self.assertEqual(desk.tell("now"), "none 1/2")

    def test_whatever_becomes_of_the_name(self):
        for line in ("drop a", "rule a 2 least(b0, b1)", "rule a 1 0"):
            desk = led_desk()
            desk.tell("bid 1/3")
            before = desk.tell("now")
            desk.tell(line)
            self.assertEqual(desk.tell("now"), before)
            desk.tell("bid 1")
            desk.tell("bid 1/3")
            self.assertEqual(desk.tell("now"), "none 2/3")

    def test_another_one_is_led_from_now_on(self):
        desk = led_desk()
        desk.tell("bid 1/3")
        desk.tell("rule b 1 b0")
        desk.tell("sit b 1/7 0")
        self.assertEqual(desk.tell("now"), "0 1/7")

    def test_by_chance(self):
        rng = chance(312)
        for _ in range(30):
            made = rule(rng)
            desk = desk_with("rule r " + rule_text(made))
            schedule = schedule_of(rng, made.people, 9)
            wishes = numbers(rng, made.people)
            sitting = Sitting(made, wishes, schedule)
            self.assertEqual(desk.tell(f"sit r {numbers_text(wishes)} {persons_text(schedule)}"), "ok")
            for bid in numbers(rng, len(schedule)):
                self.assertEqual(desk.tell("now"), f"{sitting.speaker()} {number_text(sitting.foreseen())}")
                self.assertEqual(desk.tell("bid " + number_text(bid)), "ok")
                sitting.bid(bid)
            self.assertEqual(desk.tell("now"), "none " + number_text(sitting.told()))


class TestUndo(unittest.TestCase):
    def test_each_kind_of_line(self):
        desk = desk_with("rule b 1 b0", "rule a 2 mean(1*b0, 1*b1)", "sit a 0,1 0,1", "bid 1/3")
        for line in ("rule c 1 b0", "rule a 1 b0", "drop a", "drop b", "sit a 1,1 0,1,0", "sit b 0 0", "bid 1", "bid 0"):
            before = shown(desk)
            self.assertEqual(desk.tell(line), "ok")
            self.assertEqual(desk.undoable(), before[1] + 1)
            self.assertNotEqual(shown(desk)[2:] + shown(desk)[:1], before[2:] + before[:1])
            self.assertEqual(desk.tell("undo"), "ok")
            self.assertEqual(shown(desk), before)

    def test_down_to_nothing(self):
        lines = ["rule a 2 mean(1*b0, 1*b1)", "rule b 1 b0", "sit a 0,1 0,1,0", "bid 1/2", "sit b 1/3 0", "bid 1/7", "drop a",
                 "rule b 2 least(b0, b1)", "sit b 1,1/5 1,0", "bid 0", "bid 1", "drop b"]
        desk = Desk()
        seen = []
        for line in lines:
            seen.append(shown(desk))
            self.assertEqual(desk.tell(line), "ok")
        self.assertEqual(desk.undoable(), len(lines))
        while seen:
            self.assertEqual(desk.tell("undo"), "ok")
            self.assertEqual(shown(desk), seen.pop())
        for _ in range(2):
            self.assertRaises(NothingDone, desk.tell, "undo")
            self.assertEqual(shown(desk), [["none"], 0, None])
        # And on from there.
        self.assertEqual(desk.tell(lines[0]), "ok")
        self.assertEqual(desk.undoable(), 1)

    def test_what_was_led_ahead_is_led_again_as_it_was(self):
        desk = led_desk()
        desk.tell("bid 1/3")
        desk.tell("sit a 0,0 1,0")
        desk.tell("bid 1")
        self.assertEqual(desk.tell("undo"), "ok")
        self.assertEqual(desk.tell("undo"), "ok")
        self.assertEqual(desk.tell("now"), "1 1/2")
        desk.tell("bid 1/5")
        desk.tell("bid 0")
        self.assertEqual(desk.tell("now"), "none 1/10")
        for told in ("0 1/4", "1 1/2", "0 1/2"):
            desk.tell("undo")
            self.assertEqual(desk.tell("now"), told)
        desk.tell("undo")
        self.assertRaises(NoneLed, desk.tell, "now")

    def test_errors_are_not_taken_back(self):
        desk = led_desk()
        for line in ("rule b 1 b1", "rule b x", "drop b", "sit a 0 0,1", "sit a 0,1 0", "bid 2", "odd"):
            self.assertRaises(BidError, desk.tell, line)
        self.assertEqual(desk.undoable(), 2)
        desk.tell("undo")
        self.assertRaises(NoneLed, desk.tell, "now")
        self.assertEqual(desk.tell("names"), "a")

    def test_what_was_taken_back_is_not_taken_back_again(self):
        desk = desk_with("rule a 1 b0", "rule b 1 b0")
        desk.tell("undo")
        desk.tell("rule c 1 b0")
        desk.tell("undo")
        self.assertEqual(desk.tell("names"), "a")
        desk.tell("undo")
        self.assertEqual(desk.tell("names"), "none")

    def test_desks_are_apart(self):
        one, other = led_desk(), led_desk()
        one.tell("bid 1")
        one.tell("drop a")
        self.assertEqual(shown(other), shown(led_desk()))
        self.assertFalse(one == other)

    def test_by_chance(self):
        rng = chance(313)
        desk = Desk()
        seen = []
        for _ in range(600):
            made = rule(rng, 2, 2)
            name, other = rng.choice("abc"), rng.choice("abc")
            line = rng.choice(["undo", "undo", f"drop {name}", f"rule {name} {rule_text(made)}", f"sit {other} 0,1/3 1,0,1",
                               f"bid {number_text(numbers(rng, 1)[0])}"])
            before = shown(desk)
            try:
                desk.tell(line)
            except BidError:
                self.assertEqual(shown(desk), before)
                continue
            if line == "undo":
                self.assertEqual(shown(desk), seen.pop())
            else:
                seen.append(before)
            self.assertEqual(desk.undoable(), len(seen))


class TestErrors(unittest.TestCase):
    def raises(self, desk, error, line, field=None):
        """The line raises this, with its field if it has one, and changes nothing."""
        before = shown(desk)
        with self.assertRaises(BidError, msg=line) as caught:
            desk.tell(line)
        self.assertIs(type(caught.exception), error, line)
        if field is not None:
            self.assertEqual(list(vars(caught.exception).values()), [field], line)
        self.assertEqual(shown(desk), before, line)

    def test_what_is_no_line(self):
        for desk in (Desk(), led_desk()):
            for thing in ODD + [0, 1, ["names"], ("names",), b"names", desk, MEAN2]:
                self.raises(desk, NoWord, thing)

    def test_near_ones_that_are_none(self):
        desk = led_desk()
        for line in LINES:
            word = line.split(" ")[0]
            for near in (" " + line, line.upper(), line.replace(" ", "  ", 1) if " " in line else line + " ", line + "\n", "\n" + line,
                         line.replace(word, word + "s"), line.replace(word, word[:-1], 1), line.replace(" ", "\t", 1) + "\n",
                         line.replace(" ", "\n", 1) + "\n", word + " ", "\t" + line):
                self.raises(desk, NoWord, near)
            if word != "rule":
                for near in (line + " ", line + " 1", line + " a", " ".join(line.split(" ")[:-1])):
                    self.raises(desk, NoWord, near)
            if word not in ("names", "now", "undo"):
                self.raises(desk, NoWord, word)
        for line in ("rule a", "rule a ", "rule  1 b0", "sit a 0,1  0,1", "sit a 0,1 0, 1", "sit a  0,1", "outcome a 0, 1", "outcome a ",
                     "bid", "bid ", "bid 1 1", "bid  1", "alike a", "alike a a a", "alike aa", "names a", "now 1", "undo 1", "quit", "rule a\n1 b0",
                     "rule a 1 b0\n", "show a\n"):
            self.raises(desk, NoWord, line)

    def test_forms_hold_any_signs_without_blanks(self):
        # Of these NUMBERS, SCHEDULES and NUMBERS of bids only what they tell is wrong; so the name, or the sitting, comes first.
        for signs in ("x", "0,,1", ",", "-1,1", "1/2/3,0", "0\t1", "\t", "a", "(0,1)", "~", "0,2", "01,1", "1/1,0", "0/1,0", "2/4,1"):
            for word, error in (("outcome", NoWishes), ("value", NoBids), ("sides", NoWishes)):
                self.raises(led_desk(), error, f"{word} a {signs}")
                self.raises(led_desk(), NoName, f"{word} b {signs}", "b")
            self.raises(led_desk(), NoWishes, f"sit a {signs} 0,1")
            self.raises(led_desk(), NoWishes, f"sit a {signs} {signs}")
            self.raises(led_desk(), NoName, f"sit b {signs} {signs}", "b")
            self.raises(led_desk(), NoNumber, f"bid {signs}")
            self.raises(Desk(), NoneLed, f"bid {signs}")

    def test_texts_and_rules(self):
        desk = led_desk()
        self.raises(desk, BadText, "rule a  ", 1)
        self.raises(desk, BadText, "rule a  1 b0", 1)
        self.raises(desk, BadText, "rule a 1 b0 ", 5)
        self.raises(desk, BadText, "rule a 1 b0\t", 5)
        self.raises(desk, BadText, "rule a \t", 1)
        self.raises(desk, BadText, "rule a x", 1)
        self.raises(desk, BadText, "rule a 1 least(b0, b0", 15)
        self.raises(desk, BadRule, "rule a 7 b0", "people")
        self.raises(desk, BadRule, "rule a 1 b1", "term")
        self.raises(desk, BadRule, "rule a 1 " + "least(" * 9999 + "b0" + ")" * 9999, "term")
        for text in ("1 mean(1*b0", "1 b00", "1 1/1", "1  b0", "q"):
            self.raises(desk, BadText, "rule b " + text, bad_at(text))

    def test_names(self):
        for line in ("drop b", "show b", "outcome b 0,1", "value b 0", "corners b", "alike b c", "alike a b", "alike b a", "sides b 0,1",
                     "sit b 0,1 0,1"):
            self.raises(led_desk(), NoName, line, "b")
        self.raises(Desk(), NoName, "alike c b", "c")
        self.raises(desk_with("rule c 1 b0"), NoName, "alike c b", "b")
        self.raises(Desk(), NoName, "drop abcdefgh", "abcdefgh")

    def test_wishes_and_bids(self):
        for row in ("0", "0,1,1", "0,1,", ",0,1", "0,1.5", "0,3/2", "0,1/0", "0,4/8", "0,+1", "0,-0", "0,00", "0,01/2", "0,1/02", "0,1/", "0,/2",
                    "0,1//2", "0,1/2/3", "0,0/1", "0,1/1", "0,0/3", "0;1", "0,b1", "0,1e0", "0,1_0", "0," + "9" * 5000):
            self.assertFalse(all(is_number_text(part) for part in row.split(",")) and row.count(",") == 1)
            for word, error in (("outcome", NoWishes), ("value", NoBids), ("sides", NoWishes)):
                self.raises(led_desk(), error, f"{word} a {row}")
            self.raises(led_desk(), NoWishes, f"sit a {row} 0,1")
            self.raises(led_desk(), NoWishes, f"sit a {row} none")

    def test_schedules(self):
        for schedule in ("0", "1", "0,0", "0,2", "0,1,2", "0,1,", ",0,1", "0,,1", "0,01", "00,1", "0,-1", "0,+1", "0,1/2", "0;1", "0,b1", "x", "-",
                         "0,1" + ",0" * 11, "0,1," + "9" * 5000):
            self.raises(led_desk(), NoSchedule, f"sit a 0,1 {schedule}")
        for schedule in ("0,1", "1,0", "0,1,1,1", "0,1" + ",0" * 10):
            self.assertEqual(led_desk().tell(f"sit a 0,1 {schedule}"), "ok")

    def test_bids(self):
        for number in ("2", "-1", "1/1", "0/1", "2/4", "01", "1/02", "3/2", "1/", "/2", "x", "0,1", "1/0", "b0", "1.0"):
            self.raises(led_desk(), NoNumber, f"bid {number}")
            whole = led_desk()
            for _ in range(3):
                whole.tell("bid 1/3")
            self.raises(whole, NoTurn, f"bid {number}")
            self.raises(whole, NoTurn, "bid 1")
            self.raises(desk_with(MEAN), NoneLed, f"bid {number}")
        self.raises(desk_with(MEAN), NoneLed, "now")
        self.raises(Desk(), NoneLed, "bid 1")
        self.raises(Desk(), NothingDone, "undo")

    def test_other_people(self):
        desk = desk_with("rule a 1 b0", "rule b 2 b0")
        self.raises(desk, OtherPeople, "alike a b")

    def test_number_texts_are_those_of_texts(self):
        desk = desk_with("rule a 1 b0")
        rng = chance(314)
        seen = {True: 0, False: 0}
        for _ in range(3000):
            text = "".join(rng.choice("0011223//9a") for _ in range(rng.randint(1, 5)))
            right = is_number_text(text)
            seen[right] += 1
            if right:
                self.assertEqual(desk.tell("value a " + text), text)
            else:
                self.assertRaises(NoBids, desk.tell, "value a " + text)
        self.assertGreater(min(seen.values()), 100)


class TestRulesThatAreKept(unittest.TestCase):
    def test_of_one_person_and_of_six(self):
        desk = desk_with("rule a 1 1/2", "rule b 6 ranked(3; b0, b1, b2, b3, b4, b5)")
        self.assertEqual(desk.tell("corners a"), "1/2 1/2")
        self.assertEqual(desk.tell("outcome a 0"), "1/2")
        self.assertEqual(desk.tell("outcome b 0,1/5,2/5,3/5,4/5,1"), "3/5")
        self.assertEqual(desk.tell("sides b 0,1/5,2/5,3/5,4/5,1"), "0,1,2 3 4,5")
        self.assertEqual(desk.tell("show a"), rule_text(Rule(1, ("fixed", (1, 2)))))


if __name__ == "__main__":
    unittest.main()
