"""The fact about MIRRORED MACHINEs and PLAYs: point [17]."""

import unittest
from itertools import product
from random import Random

from stolenvoices.boards import reached
from stolenvoices.cutting import cut_play, silent_play, sure_keys
from stolenvoices.deciding import alike, covers, gap, grows, parting
from stolenvoices.lists import needless
from stolenvoices.machines import mirrored
from stolenvoices.papers import paper
from stolenvoices.plays import cuts, need, trace
from tests import model
from tests.draws import draw_machine, draw_pairs, draw_play

BOARDS = model.BOARDS


def mirror_sounds(sounds, many):
    return tuple(tuple(many - 1 - key for key in reversed(keys)) for keys in sounds)


def length(play):
    return None if play is None else len(play)


class Mirrored(unittest.TestCase):

    def test_drawn_plays(self):
        chance = Random(1)
        for voices, filters, many in product(range(1, 9), range(6), (4, 9, 88)):
            machine = draw_machine(chance, voices, filters)
            play = draw_play(chance, 60, range(many))
            other = model.mirror_play(play, many)
            self.assertEqual(mirrored(machine), model.mirror_machine(machine))
            self.assertEqual(trace(mirrored(machine), other), mirror_sounds(trace(machine, play), many))
            self.assertEqual(cuts(mirrored(machine), other),
                             tuple((number, many - 1 - key) for number, key in cuts(machine, play)))
            self.assertEqual(need(other), need(play))

    def test_all_short_plays_of_a_board(self):
        chance = Random(2)
        for keys, pedal in ((2, False), (2, True), (3, False)):
            plays = list(model.all_plays(keys, pedal, 5))
            for _ in range(8):
                machine = draw_machine(chance, chance.randint(1, 2))
                for play in plays:
                    self.assertEqual(trace(mirrored(machine), model.mirror_play(play, keys)),
                                     mirror_sounds(trace(machine, play), keys))

    def test_states_and_keys_of_a_board(self):
        chance = Random(3)
        for (keys, pedal), _ in product(BOARDS, range(15)):
            machine = draw_machine(chance, chance.randint(1, 3))
            other = mirrored(machine)
            states = [(down, tuple((keys - 1 - key, mark) for key, mark in row))
                      for down, row in reached(machine, keys, pedal=pedal)]
            self.assertEqual(reached(other, keys, pedal=pedal), tuple(sorted(states)))
            sure = [keys - 1 - key for key in sure_keys(machine, keys, pedal=pedal)]
            self.assertEqual(sure_keys(other, keys, pedal=pedal), tuple(sorted(sure)))
            self.assertEqual(needless(other, keys, pedal=pedal), needless(machine, keys, pedal=pedal))
            self.assertIs(grows((3, *other[1:]), keys, pedal=pedal),
                          grows((3, *machine[1:]), keys, pedal=pedal))
            for key, look in product(range(keys), (cut_play, silent_play)):
                self.assertEqual(length(look(machine, key, keys, pedal=pedal)),
                                 length(look(other, keys - 1 - key, keys, pedal=pedal)))

    def test_answers_on_a_board(self):
        chance = Random(4)
        for keys, pedal in BOARDS:
            for one, other in draw_pairs(chance, 30):
                pair = (mirrored(one), mirrored(other))
                for look in (alike, covers):
                    self.assertIs(look(*pair, keys, pedal=pedal), look(one, other, keys, pedal=pedal))
                for look in (parting, gap, paper):
                    self.assertEqual(length(look(*pair, keys, pedal=pedal)),
                                     length(look(one, other, keys, pedal=pedal)))
                split = parting(one, other, keys, pedal=pedal)
                if split is not None:
                    play = model.mirror_play(split, keys)
                    self.assertNotEqual(trace(pair[0], play), trace(pair[1], play))


if __name__ == "__main__":
    unittest.main()
