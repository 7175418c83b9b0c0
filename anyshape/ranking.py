"""A ranking of programs by names: each is judged with the same facts, and has a standing."""

from anyshape.joining import other_input
from anyshape.judged import Judged, are_alike


class Ranking:
    """Programs by names, judged with the facts of a craft; it does not change."""

    def __init__(self, craft, programs, judged):
        self._craft = craft
        self._programs = {name: programs[name] for name in sorted(programs)}
        # What is known of programs with these facts already is not looked for again.
        self._judged = {name: judged[name] if name in judged else Judged(craft, programs[name])
                        for name in self._programs}
        self._standings = {}
        for name in self._programs:
            self._standings[name] = self._found_standing(name)

    def standings(self):
        """A dict of the standings of the programs, its keys sorted."""
        return dict(self._standings)

    def changed(self, programs, replaced):
        """The ranking with the same facts and these programs, the one with the replaced name being another one."""
        judged = {name: self._judged[name] for name in self._judged if name != replaced}
        return Ranking(self._craft, programs, judged)

    def _found_standing(self, name):
        """The standing of a program, if those with lesser names have theirs."""
        known = self._judged[name]
        if known.broken() is not None:
            return "fails", known.broken()[0]
        if known.crossed() is not None:
            return ("crossed",)
        for other, standing in list(self._standings.items()):
            # Programs that are alike to each other have the least name in common.
            if standing == ("alike", other) and self._are_alike(name, other):
                return standing
        return "alike", name

    def _are_alike(self, name, other):
        """Whether two programs have the same inputs and are alike."""
        if other_input(self._craft, self._programs[name], self._programs[other]) is not None:
            return False
        return are_alike(self._craft, self._judged[name], self._judged[other])
