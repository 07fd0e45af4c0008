import random
import unittest

import brute
from brute import COMPLETE, LOOSE, PATH, SINGLE, STAR, TRIANGLE
from cointakes.desk import Desk
from cointakes.errors import BadLaying, BadWeb, InvalidLine, NothingToRedo, NothingToUndo, NotText
from cointakes.hands import worth
from cointakes.orders import order_count
from exact import ExactCase

UP = (1, 1, 1)
QUESTIONS = ("lie", "heads", "ways", "worth")
STEPS = ("take", "turn", "back")


def step(web, laying, word, place):
    """The laying behind a step, None if it cannot be done."""
    if word == "take":
        return brute.take(web, laying, place)
    coins = list(laying)
    if word == "turn" and coins[place] is not None:
        coins[place] = 1 - coins[place]
        return tuple(coins)
    if word == "back" and coins[place] is None:
        coins[place] = 1
        for other in brute.near(web, place):
            if coins[other] is not None:
                coins[other] = 1 - coins[other]
        return tuple(coins)
    return None


def ways_on(web, laying):
    if all(coin is None for coin in laying):
        return 1
    behind = [brute.take(web, laying, place) for place in range(web[0])]
    return sum(ways_on(web, other) for other in behind if other is not None)


class DeskCase(ExactCase):
    def desk(self, web=PATH, laying=UP, lines=()):
        desk = Desk(web, laying)
        for text in lines:
            self.same(desk.run(text), None)
        return desk

    def stands(self, desk, laying, steps):
        self.same([desk.laying, desk.steps], [laying, steps])

    def wrong(self, text, word, web=PATH, laying=UP):
        """The line is refused, and nothing is changed: not what can be done again, either."""
        desk = self.desk(web, laying)
        self.fails(InvalidLine, {"word": word}, desk.run, text)
        self.stands(desk, laying, ())
        desk.run("turn 0" if laying[0] is not None else "back 0")
        behind, steps = desk.laying, desk.steps
        desk.undo()
        self.fails(InvalidLine, {"word": word}, desk.run, text)
        self.stands(desk, laying, ())
        desk.redo()
        self.stands(desk, behind, steps)


class Steps(DeskCase):
    def test_a_new_desk(self):
        self.stands(self.desk(), UP, ())
        self.stands(self.desk(COMPLETE, (1, 0, None) * 3), (1, 0, None) * 3, ())

    def test_take(self):
        desk = self.desk(lines=["take 0"])
        self.stands(desk, (None, 0, 1), ("take 0",))
        self.same(desk.run("take 2"), None)
        self.stands(desk, (None, 1, None), ("take 0", "take 2"))
        self.same(desk.run("take 1"), None)
        self.stands(desk, (None, None, None), ("take 0", "take 2", "take 1"))

    def test_turn(self):
        desk = self.desk(PATH, (1, 0, None), ["turn 1"])
        self.stands(desk, (1, 1, None), ("turn 1",))
        desk.run("turn 1")
        self.stands(desk, (1, 0, None), ("turn 1", "turn 1"))

    def test_back(self):
        self.stands(self.desk(PATH, (1, None, 0), ["back 1"]), (0, 1, 1), ("back 1",))
        # Any empty place will do, though no coin may ever have lain there.
        self.stands(self.desk(PATH, (None, 1, None), ["back 2"]), (None, 0, 1), ("back 2",))
        self.stands(self.desk(PATH, (None, None, None), ["back 0", "back 1"]), (0, 1, None), ("back 0", "back 1"))

    def test_all_steps_of_small_webs(self):
        for web in brute.all_webs(1) + brute.all_webs(2) + brute.all_webs(3) + brute.all_webs(4)[::13]:
            for laying in brute.any_layings(web):
                for word in STEPS:
                    for place in range(web[0]):
                        text = f"{word} {place}"
                        behind = step(web, laying, word, place)
                        if behind is None:
                            self.wrong(text, 2, web, laying)
                        else:
                            self.stands(self.desk(web, laying, [text]), behind, (text,))

    def test_take_of_no_head(self):
        self.wrong("take 1", 2, PATH, (1, 0, 1))
        self.wrong("take 1", 2, PATH, (1, None, 1))

    def test_turn_of_an_empty_place(self):
        self.wrong("turn 2", 2, PATH, (1, 1, None))

    def test_back_on_a_coin(self):
        self.wrong("back 0", 2, PATH, (1, None, None))
        self.wrong("back 1", 2, PATH, (1, 0, None))

    def test_steps_as_they_were_passed(self):
        desk = self.desk(lines=["  take    0 ", "back 0", " turn 1"])
        self.stands(desk, (1, 0, 1), ("  take    0 ", "back 0", " turn 1"))
        desk.undo()
        desk.undo()
        desk.redo()
        self.stands(desk, UP, ("  take    0 ", "back 0"))


class Questions(DeskCase):
    def test_lie(self):
        self.same([self.desk().run("lie"), self.desk(PATH, (None, 0, 1)).run("lie")], ["HHH", ".TH"])
        self.same([self.desk(LOOSE, (None,) * 9).run("lie"), self.desk(SINGLE, (0,)).run("lie")], [".........", "T"])

    def test_heads(self):
        self.same([self.desk().run("heads"), self.desk(PATH, (1, 0, None)).run("heads")], ["0 1 2", "0"])
        self.same([self.desk(PATH, (0, 0, None)).run("heads"), self.desk(PATH, (None,) * 3).run("heads")], ["none", "none"])
        self.same(self.desk(LOOSE, (1,) * 9).run("heads"), "0 1 2 3 4 5 6 7 8")

    def test_ways(self):
        self.same([self.desk().run("ways"), self.desk(TRIANGLE, (0, 0, 0)).run("ways"), self.desk(LOOSE, (1,) * 9).run("ways")], ["2", "0", "362880"])
        # What is empty at first stays so: the coins that lie there are all to be taken.
        self.same([self.desk(PATH, (1, None, 1)).run("ways"), self.desk(PATH, (1, 0, None)).run("ways")], ["2", "1"])
        self.same([self.desk(PATH, (None,) * 3).run("ways"), self.desk(PATH, (None, 0, None)).run("ways")], ["1", "0"])
        self.same(self.desk(STAR, (1,) * 8 + (None,)).run("ways"), "40320")

    def test_worth(self):
        self.same([self.desk().run("worth"), self.desk(PATH, (1, 1, 0)).run("worth"), self.desk(PATH, (1, None, 1)).run("worth")], ["1", "2", "0"])

    def test_small_webs(self):
        for web in brute.all_webs(1) + brute.all_webs(2) + brute.all_webs(3) + brute.all_webs(4)[::7]:
            for laying in brute.any_layings(web):
                desk = self.desk(web, laying)
                heads = " ".join(str(place) for place, coin in enumerate(laying) if coin == 1)
                signs = "".join({1: "H", 0: "T", None: "."}[coin] for coin in laying)
                wanted = [signs, heads or "none", str(ways_on(web, laying)), str(worth(web, laying))]
                self.same([desk.run(word) for word in QUESTIONS], wanted)
                if None not in laying:
                    self.same(desk.run("ways"), str(order_count(web, laying)))
                self.stands(desk, laying, ())

    def test_questions_are_no_steps(self):
        desk = self.desk(lines=["take 0", "take 2"])
        desk.undo()
        for word in QUESTIONS:
            self.assertIsInstance(desk.run(word), str)
            self.stands(desk, (None, 0, 1), ("take 0",))
        desk.redo()
        self.stands(desk, (None, 1, None), ("take 0", "take 2"))
        desk.undo()
        desk.undo()
        self.fails(NothingToUndo, {}, desk.undo)


class Lines(DeskCase):
    def test_spaces(self):
        for text in ("take 0", "take  0", " take 0", "take 0 ", "   take     0   "):
            self.stands(self.desk(lines=[text]), (None, 0, 1), (text,))
        for text in ("lie", " lie", "lie ", "   lie   "):
            self.same(self.desk().run(text), "HHH")

    def test_other_blanks_are_no_spaces(self):
        for text in ("take\t0", "take\n0", "\ttake 0", "lie\n", "\n", "take\u00a00", "lie\t"):
            self.wrong(text, 1)
        for text in ("take 0\n", "take \t0", "take \n", "lie \t"):
            self.wrong(text, 2)
        self.wrong("take 0 \t", 3)

    def test_no_word(self):
        self.wrong("", 1)
        self.wrong(" ", 1)
        self.wrong("      ", 1)

    def test_first_word(self):
        for text in ("tak 0", "takes 0", "TAKE 0", "Lie", "0", "0 take", "undo", "redo", "none", "x", "take0", "take,0", "-", "\u0660"):
            self.wrong(text, 1)
            self.wrong(text + " 0 0", 1)

    def test_missing_place(self):
        for word in STEPS:
            self.wrong(word, 2)
            self.wrong(f"  {word}   ", 2)

    def test_places_that_cannot_stand(self):
        for word in STEPS:
            for place in ("3", "9", "00", "01", "10", "-1", "+1", "0.", "x", "H", "1-", "\u0661", "\u00b2", "None", "take", "0,1"):
                self.wrong(f"{word} {place}", 2)
                self.wrong(f"{word} {place} 0", 2)

    def test_a_word_too_many(self):
        self.wrong("take 0 1", 3)
        self.wrong("turn 0 x", 3)
        self.wrong("back 1 1", 3, PATH, (1, None, 1))
        self.wrong("  take   0   0   0", 3)
        for word in QUESTIONS:
            self.wrong(f"{word} 0", 2)
            self.wrong(f"{word} {word}", 2)
            self.wrong(f" {word}  x  y ", 2)

    def test_the_first_of_two_wrong_words(self):
        self.wrong("take 1 1", 2, PATH, (1, 0, 1))
        self.wrong("turn 2 0", 2, PATH, (1, 1, None))
        self.wrong("back 0 0", 2)

    def test_digits_up_to_the_last_place(self):
        self.stands(self.desk(LOOSE, (1,) * 9, ["take 8"]), (1,) * 8 + (None,), ("take 8",))
        self.wrong("take 9", 2, LOOSE, (1,) * 9)
        self.wrong("take 1", 2, SINGLE, (1,))
        self.stands(self.desk(SINGLE, (1,), ["take 0"]), (None,), ("take 0",))


class UndoAndRedo(DeskCase):
    def test_to_both_ends(self):
        lines = ["take 0", "turn 1", " take  2", "back 0", "turn 0"]
        desk = self.desk()
        seen = [(desk.laying, desk.steps)]
        for text in lines:
            desk.run(text)
            seen.append((desk.laying, desk.steps))
        for _ in range(2):
            self.fails(NothingToRedo, {}, desk.redo)
            for laying, steps in seen[-2::-1]:
                self.same(desk.undo(), None)
                self.stands(desk, laying, steps)
            self.fails(NothingToUndo, {}, desk.undo)
            self.stands(desk, UP, ())
            for laying, steps in seen[1:]:
                self.same(desk.redo(), None)
                self.stands(desk, laying, steps)
        self.fails(NothingToRedo, {}, desk.redo)
        self.stands(desk, *seen[-1])

    def test_nothing_at_first(self):
        desk = self.desk()
        self.fails(NothingToUndo, {}, desk.undo)
        self.fails(NothingToRedo, {}, desk.redo)
        self.stands(desk, UP, ())

    def test_a_step_behind_an_undo(self):
        desk = self.desk(lines=["take 0", "take 2"])
        desk.undo()
        desk.undo()
        desk.run("turn 1")
        self.fails(NothingToRedo, {}, desk.redo)
        self.stands(desk, (1, 0, 1), ("turn 1",))
        desk.undo()
        self.stands(desk, UP, ())
        desk.redo()
        self.stands(desk, (1, 0, 1), ("turn 1",))
        self.fails(NothingToRedo, {}, desk.redo)

    def test_the_same_step_behind_an_undo(self):
        desk = self.desk(lines=["take 0", "take 2"])
        desk.undo()
        desk.undo()
        desk.run("take 0")
        self.fails(NothingToRedo, {}, desk.redo)
        self.stands(desk, (None, 0, 1), ("take 0",))

    def test_what_is_refused_ends_nothing(self):
        desk = self.desk(lines=["take 0", "take 2"])
        desk.undo()
        for text in ("take 1", "turn 0", "back 2", "", "take", "take 2 2", "lie 0"):
            with self.assertRaises(InvalidLine):
                desk.run(text)
        for value in (None, 0, True, ["take 2"], ("take", "2")):
            self.fails(NotText, {}, desk.run, value)
        self.stands(desk, (None, 0, 1), ("take 0",))
        desk.redo()
        self.stands(desk, (None, 1, None), ("take 0", "take 2"))

    def test_random_walks(self):
        chosen = random.Random(11)
        for web in (brute.TADPOLE, brute.SPIDER, STAR, COMPLETE):
            laying = tuple(chosen.choice((0, 1, None)) for _ in range(web[0]))
            desk = Desk(web, laying)
            done, undone = [("", laying)], []
            for _ in range(300):
                word, place = chosen.choice(STEPS + ("undo", "redo")), chosen.randrange(web[0])
                text = f"{word} {place}"
                behind = None if word in ("undo", "redo") else step(web, done[-1][1], word, place)
                if word == "undo" and len(done) > 1:
                    desk.undo()
                    undone.append(done.pop())
                elif word == "redo" and undone:
                    desk.redo()
                    done.append(undone.pop())
                elif behind is not None:
                    desk.run(text)
                    done.append((text, behind))
                    undone = []
                else:
                    refused = {"undo": desk.undo, "redo": desk.redo}.get(word)
                    with self.assertRaises((InvalidLine, NothingToUndo, NothingToRedo)):
                        refused() if refused else desk.run(text)
                self.stands(desk, done[-1][1], tuple(text for text, _ in done[1:]))


class Arguments(DeskCase):
    def test_texts_that_are_none(self):
        for value in (None, True, False, 0, 1, (), ("take", "0"), [], ["lie"], {}, {"lie": 0}):
            desk = self.desk(lines=["take 0"])
            self.fails(NotText, {}, desk.run, value)
            self.stands(desk, (None, 0, 1), ("take 0",))

    def test_wrong_webs_and_layings(self):
        self.fails(BadWeb, {"index": 1}, Desk, (3, ((0, 1), (0, 1))), (1, 1))
        self.fails(BadWeb, {"index": None}, Desk, None, UP)
        self.fails(BadLaying, {"index": None}, Desk, PATH, (1, 1))
        self.fails(BadLaying, {"index": 1}, Desk, PATH, (1, True, 2))

    def test_properties_are_only_read(self):
        desk = self.desk()
        for name in ("laying", "steps"):
            with self.assertRaises(AttributeError):
                setattr(desk, name, ())
        self.stands(desk, UP, ())

    def test_two_desks_live_apart(self):
        one, other = self.desk(lines=["take 0"]), self.desk()
        other.run("turn 0")
        self.stands(one, (None, 0, 1), ("take 0",))
        self.stands(other, (0, 1, 1), ("turn 0",))
        one.undo()
        self.fails(NothingToUndo, {}, one.undo)
        self.stands(other, (0, 1, 1), ("turn 0",))


if __name__ == "__main__":
    unittest.main()
