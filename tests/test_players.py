"""Players, their trials, and under: stolenvoices/players.py."""

import unittest
from itertools import product
from random import Random

from stolenvoices.errors import BadEvent, BadKey, BadMachine, BadPlay
from stolenvoices.machines import with_voices
from stolenvoices.players import Player, under
from stolenvoices.states import START
from tests import model
from tests.draws import draw_machine, draw_play
from tests.things import NO_INTEGERS, NO_TUPLES, OTHER_KINDS, exchanged, tell

MACHINE = (2, ("under", "lowest"), "highest")
PLAY = (("down", 5), ("down", 3), ("down", 9), ("down", 4), ("up", 9))
# With the pedal down: 5 is kept, 3 waits, 4 sounds.
KEPT = (("down", 5), ("down", 3), ("press",), ("up", 5), ("down", 4))
NO_EVENTS = [(), ("down",), ("up",), ("press", 0), ("lift", 0), ("down", 6, 6), ("down", -1), ("down", 88),
             ("down", 10 ** 999), ("down", True), ("up", False), ("Down", 6), (6, "down"), ["down", 6],
             ["press"], "press", "down 6", ("down", "6"), PLAY, ("hold", 6), *NO_TUPLES,
             *exchanged(("down", 6), OTHER_KINDS)]
NO_KEYS = [-1, 88, 10 ** 999, -10 ** 999, (1, 2), slice(0, 1), *NO_INTEGERS]


class PlayerCase(unittest.TestCase):

    def is_behind(self, player, machine, events):
        """All that the player tells is as the model has it behind the EVENTs."""
        instrument = model.Instrument(machine)
        for event in events:
            instrument.play(event)
        self.assertEqual(player.machine, machine)
        self.assertEqual(player.state, instrument.state())
        self.assertEqual(player.sound, instrument.sound())
        self.assertIs(player.pedal, instrument.pedal)
        self.assertEqual(len(player), len(instrument.loud()))
        self.assertEqual(player.events(), tuple(events))
        self.assertIsInstance(player.events(), tuple)
        for key in range(88):
            self.assertEqual(player[key], instrument.mark.get(key, "up"))
            self.assertIs(key in player, key in instrument.loud())

    def refused(self, error, attribute, value, call):
        with self.assertRaises(error) as caught:
            call()
        self.assertIs(getattr(caught.exception, attribute), value, tell(value))


class Beginnings(PlayerCase):

    def test_from_the_start(self):
        for machine in (MACHINE, (8, ("refuse",), "none")):
            self.is_behind(Player(machine), machine, ())
            self.is_behind(Player(machine, ()), machine, ())
            self.assertEqual(Player(machine).state, START)

    def test_behind_a_play(self):
        chance = Random(1)
        for voices, many in product(range(1, 9), (1, 7, 300)):
            machine = draw_machine(chance, voices)
            play = draw_play(chance, many, range(voices + 4))
            self.is_behind(Player(machine, play), machine, play)
            self.is_behind(Player(play=play, machine=machine), machine, play)

    def test_by_hand(self):
        player = Player(MACHINE, PLAY)
        self.assertEqual((player.state, player.sound, player.pedal, len(player)),
                         ((False, ((5, "sounds"), (3, "waits"), (4, "sounds"))), (4, 5), False, 2))
        self.assertEqual([player[key] for key in (3, 4, 5, 9)], ["waits", "sounds", "sounds", "up"])
        self.assertEqual([key in player for key in (3, 4, 5, 9)], [False, True, True, False])
        player = Player(MACHINE, KEPT)
        self.assertEqual([player[key] for key in (3, 4, 5)], ["waits", "sounds", "kept"])
        self.assertEqual([key in player for key in (3, 4, 5)], [False, True, True])
        self.assertIs(player.pedal, True)

    def test_refused_machines_and_then_plays(self):
        bad = [((0, ("eldest",), "none"), ("voices",)), ((1, ("eldest",), 0), ("return",))]
        for (machine, place), play in product(bad + [(thing, ()) for thing in NO_TUPLES], (PLAY, [], None)):
            with self.assertRaises(BadMachine) as caught:
                Player(machine, play)
            self.assertEqual(caught.exception.place, place)
        bad = [((("up", 5),), (0,)), ((*PLAY, None), (5,)), ((("press",),) * 301, ())]
        for play, place in bad + [(thing, ()) for thing in NO_TUPLES]:
            with self.assertRaises(BadPlay) as caught:
                Player(MACHINE, play)
            self.assertEqual(caught.exception.place, place)

    def test_two_players_have_nothing_in_common(self):
        one, other = Player(MACHINE, PLAY), Player(MACHINE, PLAY)
        one(("up", 3))
        one += (("press",), ("up", 4))
        self.is_behind(other, MACHINE, PLAY)
        while one.undo():
            pass
        self.is_behind(other, MACHINE, PLAY)
        with one.trial():
            one(("down", 7))
            self.is_behind(other, MACHINE, PLAY)
        self.is_behind(Player(MACHINE), MACHINE, ())

    def test_what_is_told_cannot_be_set(self):
        player = Player(MACHINE, PLAY)
        for name in ("machine", "state", "sound", "pedal"):
            self.assertRaises(AttributeError, setattr, player, name, None)

    def test_it_has_no_items_one_after_the_other(self):
        self.assertRaises(TypeError, iter, Player(MACHINE, PLAY))


class Calls(PlayerCase):

    def test_a_call_returns_the_deeds(self):
        chance = Random(2)
        for voices in range(1, 9):
            machine = draw_machine(chance, voices)
            play = draw_play(chance, 120, range(voices + 3))
            player, instrument = Player(machine), model.Instrument(machine)
            for number, event in enumerate(play):
                done = player(event=event) if number % 2 else player(event)
                self.assertEqual(done, tuple(instrument.play(event)))
                self.assertEqual(player.state, instrument.state())
            self.is_behind(player, machine, play)

    def test_by_hand(self):
        player = Player(MACHINE)
        self.assertEqual([player(event) for event in PLAY],
                         [(("begin", 5),), (("begin", 3),), (("cut", 3), ("begin", 9)), (("refuse", 4),),
                          (("end", 9), ("back", 4))])
        self.assertEqual(player(("press",)), ())

    def test_no_event_changes_nothing(self):
        for play in ((), PLAY, KEPT):
            player = Player(MACHINE, play)
            for event in NO_EVENTS:
                self.refused(BadEvent, "event", event, lambda: player(event))
            self.is_behind(player, MACHINE, play)

    def test_an_event_that_cannot_follow_changes_nothing(self):
        cases = [((), [("up", 5), ("lift",), ("up", 87)]),
                 (PLAY, [("down", 5), ("down", 3), ("up", 9), ("lift",)]),
                 (KEPT, [("up", 5), ("down", 3), ("press",), ("down", 4)])]
        for play, wrong in cases:
            player = Player(MACHINE, play)
            for event in wrong:
                self.refused(BadEvent, "event", event, lambda: player(event))
                self.refused(BadEvent, "event", event, lambda: player.__iadd__((event,)))
            self.is_behind(player, MACHINE, play)


class Additions(PlayerCase):

    def test_all_are_done(self):
        chance = Random(3)
        for voices, many in product(range(1, 9), (0, 1, 2, 40)):
            machine = draw_machine(chance, voices)
            play = draw_play(chance, many + 30, range(voices + 3))
            player = same = Player(machine, play[:30])
            player += play[30:]
            self.assertIs(player, same)
            self.is_behind(player, machine, play)

    def test_none_is_done_if_one_is_refused(self):
        chance = Random(4)
        for number in range(150):
            machine = draw_machine(chance, chance.randint(1, 3))
            play = draw_play(chance, 30, range(5))
            player = Player(machine, play[:15])
            place = chance.randrange(15, 30)
            wrong = chance.choice(NO_EVENTS) if number % 2 else play[place - 1]
            events = (*play[15:place], wrong, *play[place:])
            self.refused(BadEvent, "event", wrong, lambda: player.__iadd__(events))
            self.is_behind(player, machine, play[:15])

    def test_each_kind_of_thing_as_an_item(self):
        player = same = Player(MACHINE, PLAY)
        for event in NO_EVENTS:
            for events in ((event,), (("up", 5), event), (("up", 5), event, None), (event, event)):
                with self.assertRaises(BadEvent) as caught:
                    player += events
                self.assertIs(caught.exception.event, event)
        self.assertIs(player, same)
        self.is_behind(player, MACHINE, PLAY)

    def test_the_first_item_that_is_refused(self):
        player = Player(MACHINE)
        for events, wrong in (((("down", 1), ("down", 1), None), ("down", 1)), ((("lift",), None), ("lift",)),
                              ((("down", 1), ("up", 1), ("up", 1), ("up", 2)), ("up", 1))):
            with self.assertRaises(BadEvent) as caught:
                player += events
            self.assertEqual(caught.exception.event, wrong)
        self.is_behind(player, MACHINE, ())

    def test_none_at_all(self):
        player = Player(MACHINE, PLAY)
        player += ()
        self.is_behind(player, MACHINE, PLAY)


class Keys(PlayerCase):

    def test_a_key_goes_down_and_up(self):
        player = Player(MACHINE)
        player[5] = True
        player[3] = True
        player[9] = True
        self.is_behind(player, MACHINE, PLAY[:3])
        player[4] = True
        player[9] = False
        self.is_behind(player, MACHINE, PLAY)
        player[3] = False
        self.is_behind(player, MACHINE, (*PLAY, ("up", 3)))

    def test_nothing_happens_if_it_is_so_already(self):
        player = Player(MACHINE, PLAY)
        for key in (3, 4, 5):
            player[key] = True
        for key in (0, 9, 87):
            player[key] = False
        self.is_behind(player, MACHINE, PLAY)

    def test_a_kept_key_is_up(self):
        player = Player(MACHINE, KEPT)
        player[5] = False
        self.is_behind(player, MACHINE, KEPT)
        player[5] = True
        self.is_behind(player, MACHINE, (*KEPT, ("down", 5)))
        self.assertEqual(player.state[1][-1], (5, "sounds"))

    def test_with_the_pedal_down(self):
        player = Player(MACHINE, KEPT)
        player[4] = False
        player[3] = False
        player[87] = True
        self.is_behind(player, MACHINE, (*KEPT, ("up", 4), ("up", 3), ("down", 87)))

    def test_drawn_keys(self):
        chance = Random(5)
        for _ in range(60):
            machine = draw_machine(chance, chance.randint(1, 3))
            play = draw_play(chance, 12, range(5))
            player, events = Player(machine, play), list(play)
            for _ in range(20):
                key, down = chance.randrange(5), chance.random() < 0.5
                if (key in model.down_in(player.state)) != down:
                    events.append(("down" if down else "up", key))
                player[key] = down
            self.is_behind(player, machine, events)

    def test_no_keys(self):
        player = Player(MACHINE, PLAY)
        for key in NO_KEYS:
            with self.subTest(tell(key)):
                self.refused(BadKey, "key", key, lambda: player[key])
                for down in (True, False):
                    self.refused(BadKey, "key", key, lambda: player.__setitem__(key, down))
                self.assertIs(key in player, False)
        self.is_behind(player, MACHINE, PLAY)

    def test_true_is_no_key_that_sounds(self):
        player = Player(MACHINE, (("down", 1), ("down", 0)))
        self.assertEqual([thing in player for thing in (True, False, 1, 0, None)],
                         [False, False, True, True, False])
        for thing in [*NO_INTEGERS, ("down", 1), 88, -1, 10 ** 999]:
            self.assertIs(thing in player, False, tell(thing))


class Equals(PlayerCase):

    def test_the_same_machine_and_state(self):
        for play in ((), PLAY, KEPT):
            self.assertTrue(Player(MACHINE, play) == Player(MACHINE, play))
            self.assertFalse(Player(MACHINE, play) != Player(MACHINE, play))
        # Other EVENTs, but the same STATE.
        one, other = Player(MACHINE), Player(MACHINE, (("down", 1), ("up", 1)))
        self.assertIs(one == other, True)
        self.assertNotEqual(one.events(), other.events())
        self.assertTrue(one == one)

    def test_another_machine_or_state(self):
        one = Player(MACHINE, PLAY)
        others = [Player(MACHINE), Player(MACHINE, PLAY[:4]), Player((2, ("lowest",), "highest"), PLAY),
                  Player((2, ("under", "lowest"), "eldest"), PLAY), Player(MACHINE, (*PLAY, ("press",))),
                  Player(with_voices(MACHINE, 3), PLAY)]
        for other in others:
            self.assertIs(one == other, False)
            self.assertIs(one != other, True)
        self.assertFalse(Player(MACHINE) == Player(with_voices(MACHINE, 3)))

    def test_what_is_no_player(self):
        player = Player(MACHINE)
        for thing in [*NO_TUPLES, MACHINE, START, (MACHINE, START), Player]:
            with self.subTest(tell(thing)):
                self.assertIs(player == thing, False)
                self.assertIs(player != thing, True)


class Undo(PlayerCase):

    def test_back_to_nothing_and_once_more(self):
        chance = Random(6)
        for voices in range(1, 5):
            machine = draw_machine(chance, voices)
            events = draw_play(chance, 40, range(voices + 3))
            player = Player(machine, events[:20])
            player += events[20:30]
            for event in events[30:]:
                player(event)
            for many in range(39, -1, -1):
                self.assertIs(player.undo(), True)
                self.is_behind(player, machine, events[:many])
            for _ in range(2):
                self.assertIs(player.undo(), False)
                self.is_behind(player, machine, ())
            player(("down", 87))
            self.is_behind(player, machine, (("down", 87),))

    def test_of_keys_that_were_set_and_of_several_events(self):
        player = Player(MACHINE)
        player[5] = True
        player[5] = True
        player += (("down", 3), ("press",), ("up", 5))
        player[4] = True
        self.is_behind(player, MACHINE, KEPT)
        for many in (4, 3, 2, 1, 0):
            self.assertIs(player.undo(), True)
            self.is_behind(player, MACHINE, KEPT[:many])
        self.assertIs(player.undo(), False)

    def test_a_refused_event_is_not_taken_back(self):
        player = Player(MACHINE, PLAY)
        self.assertRaises(BadEvent, player, ("down", 5))
        self.assertRaises(BadEvent, player.__iadd__, (("up", 5), None))
        player += ()
        self.assertIs(player.undo(), True)
        self.is_behind(player, MACHINE, PLAY[:-1])

    def test_more_than_300_events(self):
        chance = Random(7)
        machine = draw_machine(chance, 2, 2)
        events = draw_play(chance, 1200, range(5))
        player = Player(machine, events[:300])
        player += events[300:700]
        for event in events[700:]:
            player(event)
        self.is_behind(player, machine, events)
        player[87] = True
        for _ in range(901):
            self.assertIs(player.undo(), True)
        self.is_behind(player, machine, events[:300])
        while player.undo():
            pass
        self.is_behind(player, machine, ())


class Trials(PlayerCase):

    def test_as_gives_the_player(self):
        player = Player(MACHINE, PLAY)
        with player.trial() as one:
            self.assertIs(one, player)
        with player.trial():
            pass
        self.is_behind(player, MACHINE, PLAY)

    def test_what_is_done_in_the_block(self):
        player = Player(MACHINE, PLAY)
        with player.trial() as one:
            one(("up", 5))
            one += (("press",), ("up", 4))
            one[7] = True
            self.is_behind(player, MACHINE, (*PLAY, ("up", 5), ("press",), ("up", 4), ("down", 7)))
        self.is_behind(player, MACHINE, PLAY)
        with player.trial():
            player.undo()
            player[9] = False
            self.is_behind(player, MACHINE, PLAY)
            player(("down", 9))
        self.is_behind(player, MACHINE, PLAY)

    def test_undo_beyond_what_was_there_before(self):
        for play in ((), PLAY):
            player = Player(MACHINE, play)
            with player.trial():
                while player.undo():
                    pass
                self.assertIs(player.undo(), False)
            self.is_behind(player, MACHINE, play)
            with player.trial():
                while player.undo():
                    pass
                player += KEPT
                self.is_behind(player, MACHINE, KEPT)
            self.is_behind(player, MACHINE, play)
            for many in range(len(play) - 1, -1, -1):
                self.assertIs(player.undo(), True)
                self.is_behind(player, MACHINE, play[:many])

    def test_a_block_in_a_block(self):
        player = Player(MACHINE, PLAY)
        with player.trial() as one:
            one(("up", 5))
            with player.trial() as other:
                self.assertIs(other, player)
                other += (("press",), ("up", 4))
                with player.trial():
                    while player.undo():
                        pass
                self.is_behind(player, MACHINE, (*PLAY, ("up", 5), ("press",), ("up", 4)))
            self.is_behind(player, MACHINE, (*PLAY, ("up", 5)))
            one.undo()
            one.undo()
        self.is_behind(player, MACHINE, PLAY)

    def test_one_block_after_another(self):
        player = Player(MACHINE)
        for number, event in enumerate(PLAY):
            with player.trial():
                player += PLAY[number:]
                self.is_behind(player, MACHINE, PLAY)
            player(event)
            self.is_behind(player, MACHINE, PLAY[:number + 1])

    def test_before_the_block_counts_not_before_the_trial_is_made(self):
        player = Player(MACHINE)
        trial = player.trial()
        player += PLAY
        with trial:
            player(("press",))
        self.is_behind(player, MACHINE, PLAY)

    def test_an_error_goes_on(self):
        class Own(BaseException):
            pass

        player = Player(MACHINE, PLAY)
        for error in (Own("x"), ValueError("x"), KeyError(1), BadKey(3)):
            with self.assertRaises(error.__class__) as caught:
                with player.trial() as one:
                    one(("press",))
                    one.undo()
                    one.undo()
                    raise error
            self.assertIs(caught.exception, error)
            self.is_behind(player, MACHINE, PLAY)
        with self.assertRaises(BadEvent):
            with player.trial():
                player(("press",))
                player(("press",))
        self.is_behind(player, MACHINE, PLAY)
        with player.trial():
            with self.assertRaises(BadEvent):
                with player.trial():
                    player(("up", 5))
                    player += (("down", 5), ("up", 9))
            self.is_behind(player, MACHINE, PLAY)
            player(("press",))
        self.is_behind(player, MACHINE, PLAY)

    def test_a_block_that_is_left_at_once(self):
        player = Player(MACHINE, PLAY)

        def leave():
            with player.trial() as one:
                one(("press",))
                return one.events()

        self.assertEqual(leave(), (*PLAY, ("press",)))
        self.is_behind(player, MACHINE, PLAY)
        for _ in range(3):
            with player.trial():
                player(("press",))
                continue
        self.is_behind(player, MACHINE, PLAY)

    def test_more_than_300_events(self):
        events = draw_play(Random(8), 900, range(5))
        player = Player(MACHINE)
        player += events[:400]
        with player.trial():
            player += events[400:]
            self.is_behind(player, MACHINE, events)
        self.is_behind(player, MACHINE, events[:400])


class Under(PlayerCase):

    def test_what_the_deed_returns(self):
        player = Player(MACHINE, PLAY)

        def deed(one):
            self.assertIs(one, player)
            one(("press",))
            return one.events()

        self.assertEqual(under(player.trial(), deed), (*PLAY, ("press",)))
        self.assertEqual(under(deed=deed, manager=player.trial()), (*PLAY, ("press",)))
        self.is_behind(player, MACHINE, PLAY)
        self.assertIsNone(under(player.trial(), lambda one: None))

    def test_under_in_under(self):
        player = Player(MACHINE, PLAY)

        def outer(one):
            one(("press",))
            told = under(one.trial(), lambda two: (two(("up", 5)), two.events()))
            return told, one.events()

        told, events = under(player.trial(), outer)
        self.assertEqual(told, ((("keep", 5),), (*PLAY, ("press",), ("up", 5))))
        self.assertEqual(events, (*PLAY, ("press",)))
        self.is_behind(player, MACHINE, PLAY)

    def test_an_error_of_the_deed_goes_on(self):
        player = Player(MACHINE, PLAY)
        self.assertRaises(BadEvent, under, player.trial(), lambda one: one(("lift",)))
        self.assertRaises(ZeroDivisionError, under, player.trial(), lambda one: (one(("press",)), 1 // 0))
        self.is_behind(player, MACHINE, PLAY)

    def test_any_manager(self):
        told = []

        class Manager:
            def __enter__(self):
                told.append("enter")
                return "one"

            def __exit__(self, *error):
                told.append("exit")

        self.assertEqual(under(Manager(), lambda one: told.append(one) or [one]), ["one"])
        self.assertEqual(told, ["enter", "one", "exit"])


if __name__ == "__main__":
    unittest.main()
