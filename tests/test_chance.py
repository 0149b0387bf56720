"""Runs, plays, machines and names of tables made by chance, beside the oracle."""

import unittest

from answersby.engine import first_state, next_state
from answersby.machines import looked_of, machine_of, names_of
from answersby.names import METHODS, OPERATIONS, outcomes_of
from answersby.plays import Play
from oracle import Oracle, chance_scene

MOST_SCRIPTS = 150
LONGEST = 5


class ChanceTest(unittest.TestCase):
    def follow(self, scene, operation, exchanged):
        """Compares all scripts up to some length; returns the oracle, and whether there were no others."""
        oracle = Oracle(scene)
        machine = machine_of(scene, operation, exchanged=exchanged)
        runs = [([], first_state(scene, operation, exchanged=exchanged))]
        whole = True
        for script, state in runs:
            calls, end, waits = oracle.run(operation, script, exchanged)
            self.assertEqual(state[:2], ("end", end) if waits is None else ("call", waits))
            self.assertEqual(machine.play(script)[:2], (end, waits))
            play = Play(scene, operation, script, exchanged=exchanged)
            self.assertEqual((list(play), play.end(), play.waits()), (list(zip(calls, script)), end, waits))
            if waits is not None:
                if len(script) < LONGEST and len(runs) < MOST_SCRIPTS:
                    for outcome in outcomes_of(waits[1]):
                        runs.append(([*script, outcome], next_state(scene, state, outcome)))
                else:
                    whole = False
        return oracle, whole

    def check(self, scene, operations):
        for operation in operations:
            for exchanged in (False, True):
                oracle, whole = self.follow(scene, operation, exchanged)
                names = names_of(scene, operation, exchanged=exchanged)
                looked = looked_of(scene, operation, exchanged=exchanged)
                self.assertEqual(names, sorted(names, key=lambda pair: (pair[0], METHODS.index(pair[1]))))
                order = scene.table().listed()
                self.assertEqual(
                    looked, sorted(looked, key=lambda pair: (order.index(pair[0]), METHODS.index(pair[1])))
                )
                self.assertLessEqual(oracle.names, set(names))
                self.assertLessEqual(oracle.looked, set(looked))
                if whole:
                    self.assertEqual((oracle.names, oracle.looked), (set(names), set(looked)))

    def test_all_operations(self):
        for seed in range(40):
            self.check(chance_scene(seed, entries=(0.3, 0.6)[seed % 2], bodies=seed % 4), OPERATIONS)

    def test_many_bodies(self):
        asked = [name for name in OPERATIONS if name not in ("each", "turned", "call", "grow")]
        for seed in range(60):
            self.check(chance_scene(seed, entries=0.55, bodies=2 + seed % 7, rooted=True), asked)
