"""The console: a market with what is traded in it, by lines of text that can be taken back."""

from evenmarket.errors import BadLine, MarketError, NothingToRedo, NothingToUndo
from evenmarket.market import Market
from evenmarket.scenes import behind_line, first_scene


class Console:
    """A console; its lists are exchanged, never changed, so that a state of it can be kept."""

    def __init__(self, rules):
        self._rules = rules
        self._steps = []
        # The scene ahead of all steps, and then that behind each of them.
        self._scenes = [first_scene(rules)]
        # What was taken back, tuples (line, scene), the last one at the end.
        self._undone = []

    def take(self, text):
        """Do the steps of a text, all or none; their answers are returned."""
        lines = [] if text == "" else text.split("\n")
        scenes = list(self._scenes)
        answers = []
        for number, line in enumerate(lines, start=1):
            try:
                scene, answer = behind_line(scenes[-1], line)
            except MarketError:
                raise BadLine(number) from None
            scenes.append(scene)
            answers.append(answer)
        if len(lines) > 0:
            self._steps = self._steps + lines
            self._scenes = scenes
            self._undone = []
        return answers

    def today(self):
        """The least day that is not closed."""
        return self._scenes[-1].today()

    def market(self):
        """A market of its own that has been told the same facts."""
        market = Market(self._rules)
        for fact in self._scenes[-1].facts():
            market.tell(fact)
        return market

    def names(self):
        """The ascending list of the names of all orders that stand or are gathered."""
        return self._scenes[-1].names()

    def steps(self):
        """The list of the lines of the steps."""
        return list(self._steps)

    def shown(self, unit):
        """What everybody sees of a unit."""
        return self._scenes[-1].stall(unit).shown()

    def text(self):
        """The lines of the steps, separated by line feeds."""
        return "\n".join(self._steps)

    def undo(self):
        """Take the last step back."""
        if len(self._steps) == 0:
            raise NothingToUndo()
        self._undone = self._undone + [(self._steps[-1], self._scenes[-1])]
        self._steps = self._steps[:-1]
        self._scenes = self._scenes[:-1]

    def redo(self):
        """Do the step again that was taken back last."""
        if len(self._undone) == 0:
            raise NothingToRedo()
        line, scene = self._undone[-1]
        self._steps = self._steps + [line]
        self._scenes = self._scenes + [scene]
        self._undone = self._undone[:-1]

    def tried(self, act):
        """What a function returns for this console, which is as before behind it."""
        steps, scenes, undone = self._steps, self._scenes, self._undone
        try:
            return act(self)
        finally:
            self._steps, self._scenes, self._undone = steps, scenes, undone

    def __len__(self):
        return len(self._steps)
