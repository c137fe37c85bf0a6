"""Promise [19], and the entry of missingmiles/journeys.py."""

import random
import unittest

from missingmiles import journeys
from missingmiles.errors import DuplicateName, InvalidStep, MilesError, Missing, NothingLeft, TooMany, UnknownName
from missingmiles.journeys import Journey
from missingmiles.steps import changed
from missingmiles.worlds import World
from tests.drawing import Steps, draw_world
from tests.helpers import ODD_VALUES, raised
from tests.test_lists import flat

CAP, TURN, SCALE = ("cap", "foot", 5), ("turn",), ("scale", "foot", (1, 2))
ROAD, PUT = ("road", "foot", "b", "a", (1, 2)), ("place", "c", "a", 3, 5)
ALL = [CAP, TURN, SCALE, ROAD, PUT]
WRONG = [*ODD_VALUES, 0, ["turn"], "turn", ("if", "foot", "a", "b", 1, (), ()), ("repeat", 1, ()), ("turn", 1),
         ("cap", "cart", 1), ("ride", "foot", "a", "b", 1), ("same", "a", "a"), ("scale", "foot", 0), ("cap", "foot", -1),
         ("road", "foot", "a", "B", 1), ("undo",), (("turn",),)]


def start_world():
    return World({"a": 0, "b": 1}, [[0, 4], [7, 0]])


class Plain(unittest.TestCase):
    def setUp(self):
        self.first = start_world()
        self.journey = Journey(self.first)

    def check(self, steps, undone=0):
        """The state of the journey behind some steps of the first world."""
        worlds = [self.first]
        for step in steps:
            worlds.append(changed(worlds[-1], step))
        journey = self.journey
        self.assertEqual(journey.world, worlds[-1])
        self.assertEqual(list(journey.stations()), worlds)
        self.assertEqual(journey.log(), list(steps))
        self.assertEqual(journey.history(), (len(steps), undone))
        self.assertEqual((len(journey), repr(journey)), (len(steps), f"Journey({len(steps)} steps)"))
        self.assertIs(bool(journey), True)
        self.assertIs(journey.busy, False)

    def test_without_steps(self):
        self.check([])
        self.assertIsNone(self.journey.go())
        self.check([])
        self.assertEqual(Journey(world=self.first).world, self.first)

    def test_steps(self):
        self.assertIsNone(self.journey.go(CAP))
        self.check([CAP])
        self.journey.go(TURN, SCALE)
        self.check([CAP, TURN, SCALE])
        self.journey.go(*ALL[3:])
        self.check(ALL)
        self.assertEqual(self.journey.world.names(), ["a", "b", "c"])

    def test_undone_and_redone(self):
        self.journey.go(*ALL)
        for many in range(5):
            self.assertIsNone(self.journey.undo())
            self.check(ALL[:4 - many], many + 1)
        raised(self, NothingLeft, self.journey.undo)
        self.check([], 5)
        for many in range(5):
            self.assertIsNone(self.journey.redo())
            self.check(ALL[:many + 1], 4 - many)
        raised(self, NothingLeft, self.journey.redo)
        self.check(ALL)

    def test_another_step_ends_redoing(self):
        self.journey.go(CAP, TURN, SCALE)
        self.journey.undo()
        self.journey.undo()
        self.journey.go(TURN)
        self.check([CAP, TURN])
        raised(self, NothingLeft, self.journey.redo)
        self.journey.undo()
        self.check([CAP], 1)
        self.journey.redo()
        self.check([CAP, TURN])

    def test_calls_that_do_no_step_leave_redoing(self):
        self.journey.go(CAP, TURN)
        self.journey.undo()
        self.journey.go()
        self.check([CAP], 1)
        raised(self, InvalidStep, self.journey.go, TURN, None)
        raised(self, UnknownName, self.journey.go, TURN, ("forget", "c"))
        self.check([CAP], 1)
        self.journey.redo()
        self.check([CAP, TURN])

    def test_log_is_as_passed(self):
        steps = [("cap", "foot", 5), ("cap", "foot", (5, 1)), ("scale", "foot", 1), ("scale", "foot", (1, 1))]
        self.journey.go(*steps)
        self.assertEqual(self.journey.log(), steps)
        self.check(steps)

    def test_nothing_left_at_first(self):
        raised(self, NothingLeft, self.journey.undo)
        raised(self, NothingLeft, self.journey.redo)
        self.check([])

    def test_lists_are_new(self):
        self.journey.go(CAP, TURN)
        self.journey.log().clear()
        self.journey.log().append(None)
        self.journey.gains().append(None)
        list(self.journey.stations()).clear()
        self.check([CAP, TURN])

    def test_stations_go_on_when_the_journey_does(self):
        self.journey.go(CAP, TURN)
        found = []
        for world in self.journey.stations():
            found.append(world)
            self.journey.undo() if len(self.journey) else None
        self.assertEqual(found, [self.first, changed(self.first, CAP), changed(changed(self.first, CAP), TURN)])
        self.check([], 2)


class Refused(unittest.TestCase):
    """Calls with a wrong step at each place change nothing."""

    def check_refused(self, error, steps):
        journey = Journey(start_world())
        journey.go(CAP, SCALE, TURN)
        journey.undo()
        before = (journey.world, journey.log(), journey.history(), list(journey.stations()), journey.gains())
        found = raised(self, error, journey.go, *steps)
        self.assertEqual((journey.world, journey.log(), journey.history(), list(journey.stations()), journey.gains()),
                         before)
        self.assertIs(journey.busy, False)
        journey.redo()
        self.assertEqual(journey.log(), [CAP, SCALE, TURN])
        return found

    def test_values_that_are_no_steps(self):
        for value in WRONG:
            for at in range(3):
                steps = [TURN, ROAD, CAP]
                steps[at] = value
                self.assertEqual(self.check_refused(InvalidStep, steps).path, (at,))
        self.assertEqual(self.check_refused(InvalidStep, [TURN, ("repeat", 1, ()), None]).path, (1,))

    def test_steps_for_two_layers(self):
        journey = Journey(flat(["a", "b"], 3, cart=True))
        journey.go(("cap", "cart", 1), ("ride", "foot", "a", "b", 0))
        self.assertEqual(len(journey), 2)
        self.assertEqual(raised(self, InvalidStep, journey.go, TURN, ("if", "cart", "a", "b", 1, (), ())).path, (1,))

    def test_values_that_are_no_steps_come_first(self):
        for step in [("forget", "z"), ("place", "a", "a", 1, 1)]:
            self.assertEqual(self.check_refused(InvalidStep, [step, TURN, None, ()]).path, (2,))

    def test_steps_that_cannot_be_done(self):
        for at in range(3):
            steps = [TURN, ROAD, CAP]
            steps.insert(at, ("forget", "z"))
            self.assertEqual(self.check_refused(UnknownName, steps).name, "z")
            steps[at] = ("place", "b", "a", 1, 1)
            self.assertEqual(self.check_refused(DuplicateName, steps).name, "b")
        self.assertEqual(self.check_refused(UnknownName, [("forget", "b"), ROAD, ("forget", "z")]).name, "b")
        self.assertEqual(self.check_refused(DuplicateName, [PUT, TURN, PUT]).name, "c")
        # An unknown name behind counts less than a name that is there.
        self.assertEqual(self.check_refused(DuplicateName, [PUT, PUT, ("forget", "z")]).name, "c")

    def test_too_many(self):
        puts = [("place", name, "a", 1, 1) for name in "cdef"]
        error = self.check_refused(TooMany, puts)
        self.assertEqual((error.subject, error.most), ("names", 5))
        steps = []
        for _ in range(8):
            steps.extend([PUT, ("forget", "c")])
        error = self.check_refused(TooMany, steps)
        self.assertEqual((error.subject, error.most), ("places", 9))
        self.assertEqual(raised(self, UnknownName, Journey(start_world()).go, *puts[:3], ("forget", "f"), TURN).name, "f")


class Busy(unittest.TestCase):
    def test_while_steps_are_done(self):
        journey, seen = Journey(start_world()), []

        def watched(world, step):
            seen.append(journey.busy)
            return changed(world, step)

        original = journeys.changed
        journeys.changed = watched
        try:
            journey.go(CAP, TURN)
            raised(self, UnknownName, journey.go, TURN, ("forget", "z"))
        finally:
            journeys.changed = original
        self.assertEqual(seen, [True] * 4)
        self.assertIs(journey.busy, False)

    def test_behind_each_call(self):
        journey = Journey(start_world())
        for call, args in [(journey.go, ()), (journey.go, (TURN,)), (journey.go, (None,)), (journey.go, (("forget", "z"),)),
                           (journey.undo, ()), (journey.undo, ()), (journey.redo, ()), (journey.redo, ()),
                           (journey.gains, ()), (journey.twin, ())]:
            try:
                call(*args)
            except (MilesError, Missing, NothingLeft):
                pass
            self.assertIs(journey.busy, False)


class Gains(unittest.TestCase):
    def test_at_each_step(self):
        journey = Journey(World({"a": 0, "b": 1}, [[0, 4, 9], [7, 0, 8], [6, 9, 0]]))
        self.assertEqual(journey.gains(), [])
        journey.go(("cap", "foot", 7))
        self.assertEqual(journey.gains(), [("foot", 0, 2), ("foot", 1, 2), ("foot", 2, 1)])
        journey.go(ROAD)
        self.assertEqual(journey.gains(), [("foot", 0, 2), ("foot", 1, 0), ("foot", 1, 2), ("foot", 2, 1)])
        journey.go(("scale", "foot", 3))
        self.assertEqual(journey.gains(), [("foot", 1, 0)])
        journey.undo()
        journey.undo()
        self.assertEqual(journey.gains(), [("foot", 0, 2), ("foot", 1, 2), ("foot", 2, 1)])
        raised(self, UnknownName, journey.go, TURN, ("forget", "z"))
        self.assertEqual(journey.gains(), [("foot", 0, 2), ("foot", 1, 2), ("foot", 2, 1)])

    def test_places_of_the_first_world(self):
        journey = Journey(start_world())
        journey.go(PUT, ("cap", "foot", 1), ("forget", "a"))
        self.assertEqual(journey.gains(), [("foot", 0, 1), ("foot", 1, 0)])

    def test_layers(self):
        journey = Journey(flat(["a", "b"], 2, 4, cart=True))
        journey.go(("cap", "cart", 3), ("road", "foot", "b", "a", 1))
        self.assertEqual(journey.gains(), [("foot", 1, 0), ("cart", 0, 1), ("cart", 1, 0)])


class Twins(unittest.TestCase):
    def state(self, journey):
        return (journey.world, journey.log(), journey.history(), list(journey.stations()), journey.gains(), len(journey))

    def test_twins_go_on_apart(self):
        journey = Journey(start_world())
        journey.go(CAP, TURN, SCALE)
        journey.undo()
        twin = journey.twin()
        self.assertIsInstance(twin, Journey)
        self.assertEqual(self.state(twin), self.state(journey))
        self.assertIs(twin.busy, False)
        before = self.state(journey)
        twin.redo()
        twin.go(PUT)
        self.assertEqual(self.state(journey), before)
        self.assertEqual(twin.log(), [CAP, TURN, SCALE, PUT])
        journey.undo()
        journey.undo()
        self.assertEqual((journey.history(), twin.history()), ((0, 3), (4, 0)))
        journey.go(ROAD)
        self.assertEqual((journey.log(), twin.log()), ([ROAD], [CAP, TURN, SCALE, PUT]))
        for _ in range(4):
            twin.undo()
        self.assertEqual((twin.world, twin.history(), journey.history()), (start_world(), (0, 4), (1, 0)))
        raised(self, NothingLeft, twin.undo)

    def test_both_redo(self):
        journey = Journey(start_world())
        journey.go(CAP, TURN)
        journey.undo()
        twin = journey.twin()
        journey.redo()
        self.assertEqual((journey.history(), twin.history()), ((2, 0), (1, 1)))
        twin.redo()
        self.assertEqual(self.state(journey), self.state(twin))


class Drawn(unittest.TestCase):
    """Journeys of drawn calls, held beside a list of the steps that are done."""

    def test_drawn(self):
        source = random.Random(3)
        for _ in range(30):
            layers = source.choice([1, 2])
            world = draw_world(source, ["a", "b"], layers, size=3)
            journey, done, undone = Journey(world), [], []
            for _ in range(25):
                word = source.choice(["go", "go", "go", "undo", "undo", "redo"])
                try:
                    if word == "undo":
                        journey.undo()
                        undone.append(done.pop())
                    elif word == "redo":
                        journey.redo()
                        done.append(undone.pop())
                    else:
                        steps = [Steps(source, layers).leaf(source.choice(["cap", "turn", "road", "place", "forget"]),
                                                            ["a", "b", "p"])[0] for _ in range(source.randint(0, 2))]
                        steps = [step for step in steps if step is not None]
                        journey.go(*steps)
                        done, undone = done + steps, [] if steps else undone
                except (MilesError, Missing, NothingLeft):
                    pass
                self.assertEqual((journey.log(), journey.history()), (done, (len(done), len(undone))))
                present = world
                for step in done:
                    present = changed(present, step)
                self.assertEqual(journey.world, present)


if __name__ == "__main__":
    unittest.main()
