"""Points 1 and 3: lives of a house, and what the whole program promises of them."""

import copy
import random
import unittest

from neithertells.errors import Unsettled
from neithertells.house import SIDES, House
from neithertells.listings import Listing
from neithertells.looker import holds
from neithertells.papers import paper_of
from neithertells.replay import replay
from samples import drawn_machine, plain_list, plain_run, view

OTHER = {"left": "right", "right": "left"}
# Settling steps are also taken one by one if they are not more than this.
FEW = 300


class LifeTest(unittest.TestCase):
    def live(self, source, deeds):
        """A house with a drawn history that ends in a settle."""
        house = House()
        for _ in range(deeds):
            choice = source.randrange(20)
            if choice < 9 and len(house) < 8:
                house.arrive(drawn_machine(source), side=source.choice(SIDES))
            elif choice < 12 and len(house) > 0:
                house.withdraw(source.choice(house.numbers()))
            elif choice < 14:
                self.settle(house)
            else:
                self.advance(house, source.choice((0, 1, 1, 2, 4, 9, 30)))
        self.settle(house)
        return house

    def advance(self, house, many):
        """Advance, and compare with single steps and with watched ones."""
        single, watched = house.twin(), house.twin()
        seen = []
        acts = house.advance(many)
        self.assertEqual([act for _ in range(many) for act in single.advance()], acts)
        self.assertEqual(watched.advance(many, watch=seen.append), acts)
        self.assertEqual(seen, acts)
        self.compare(house, single, watched)
        return acts

    def settle(self, house):
        """Settle, and compare with single steps, with watched ones and with the same advance."""
        plain, single, watched = house.twin(), house.twin(), house.twin()
        seen = []
        clock = house.clock()
        acts = house.settle()
        many = house.clock() - clock
        self.assertEqual(house.clock(), acts[-1][0] if acts else clock)
        self.assertEqual(plain.advance(many), acts)
        self.assertEqual(watched.settle(watch=seen.append), acts)
        self.assertEqual(seen, acts)
        self.compare(house, plain, watched)
        if many <= FEW:
            self.assertEqual([act for _ in range(many) for act in single.advance()], acts)
            self.compare(house, single)
        self.check_rest(house)

    def compare(self, house, *others):
        for other in others:
            self.assertEqual(house, other)
            self.assertEqual(view(house)[:2] + view(house)[3:], view(other)[:2] + view(other)[3:])

    def check_rest(self, house):
        """At rest each machine has a paper that holds, and no other teller's paper does for a teller."""
        before = view(house)
        sets = {side: house.members(side) for side in SIDES}
        papers = [paper_of(house, number) for number in house.numbers()]
        kept = copy.deepcopy(papers)
        for number, own in zip(house.numbers(), papers):
            facts = house.facts(number)
            self.assertIs(holds(own, facts, sets["left"], sets["right"]), True)
            for paper in papers:
                if facts[0] == "teller":
                    self.assertIs(holds(paper, facts, sets["left"], sets["right"]), paper == own)
                elif paper[0] not in ("listed", "spent"):
                    self.assertIs(holds(paper, facts, sets["left"], sets["right"]), False)
            self.check_machine(facts, own, sets)
        self.assertIsNone(house.next_act())
        self.assertEqual(view(house), before)
        self.assertEqual(papers, kept)

    def check_machine(self, facts, paper, sets):
        """What the paper says is so, straight from the statements."""
        kind, program, side, last = facts
        if kind == "teller":
            outcome, answer, length, first, second, asked = plain_run(program, last, sets[side], 3000)
            is_member = last in sets[OTHER[side]]
            # No teller decides the other set from its own set.
            self.assertNotEqual(answer, int(is_member))
            word = {"answered": "member" if is_member else "missing", "ended": "ended", "running": "silent"}[outcome]
            self.assertEqual(paper[0], word)
            self.assertEqual(paper[-1], asked)
            self.assertEqual(paper[1] if word != "silent" else None, length)
        else:
            rows = plain_list(program, 3000)
            members = [row for row in rows if row[1] in sets[side]]
            self.assertEqual(paper[0], "listed" if members else "spent")
            if Listing(program).is_endless():
                self.assertEqual(paper, ("listed", *members[0]))

    def check_history(self, house):
        """Replay the history, undo it deed by deed, and do it again."""
        again = replay(house.history())
        self.assertEqual(again, house)
        self.assertEqual(view(again), view(house))
        views = []
        deeds = house.history()
        while house.history():
            views.append(view(house))
            self.assertEqual(house, replay(house.history()))
            self.assertEqual(house.undo(), deeds[-len(views)])
        self.assertEqual(view(house), view(House()))
        self.assertEqual(house, House())
        while views:
            self.do(house, deeds[-len(views)])
            self.assertEqual(view(house), views.pop())
        self.assertEqual(house, again)

    def do(self, house, deed):
        if deed[0] == "advance":
            house.advance(deed[1])
        elif deed[0] == "withdraw":
            house.withdraw(deed[1])
        else:
            twin = replay([("arrive", deed[1], deed[2])])
            house.arrive(twin.facts(0)[1], side=deed[2])

    def check_acts(self, house):
        """A machine of rank r acts at most 2 ** r times, and a collector at most once."""
        for number in house.numbers():
            many = len(house.acts(number))
            self.assertLessEqual(many, 1 if house.facts(number)[0] == "collector" else 2 ** house.rank(number))

    def test_lives(self):
        source = random.Random(3)
        words = set()
        for _ in range(150):
            house = self.live(source, 18)
            self.check_acts(house)
            self.check_history(house)
            words.update(paper_of(house, number)[0] for number in house.numbers())
        self.assertEqual(words, {"member", "missing", "ended", "silent", "listed", "spent"})

    def test_papers_at_any_time(self):
        """Between two deeds there are papers if and only if nothing can act."""
        source = random.Random(4)
        told = set()
        for _ in range(60):
            house = House()
            for _ in range(15):
                if source.randrange(2) and len(house) < 8:
                    house.arrive(drawn_machine(source), side=source.choice(SIDES))
                else:
                    house.advance(source.randrange(6))
                told.add(house.next_act() is None)
                if house.next_act() is None:
                    self.check_rest(house)
                else:
                    for number in house.numbers():
                        with self.assertRaises(Unsettled):
                            paper_of(house, number)
        self.assertEqual(told, {True, False})

    def test_papers_stay_at_rest(self):
        """Idle steps change no paper; nor does an arrival that never acts."""
        source = random.Random(5)
        for _ in range(40):
            house = self.live(source, 8)
            papers = {number: paper_of(house, number) for number in house.numbers()}
            house.advance(10 ** 60)
            self.assertEqual({number: paper_of(house, number) for number in papers}, papers)
            if len(house) < 8:
                house.arrive(("teller", (("answer", 1),)), side="left")
                self.assertEqual({number: paper_of(house, number) for number in papers}, papers)


if __name__ == "__main__":
    unittest.main()
