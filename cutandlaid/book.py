"""Books, which keep figures by names, and papers between them."""

from cutandlaid.errors import NoSuchFigure, WrongPaper
from cutandlaid.groups import lies_in
from cutandlaid.judging import find_fault
from cutandlaid.papers import composed, identity, inverse


class Book:
    """Figures by names, and right papers between them, from which others follow."""

    def __init__(self):
        self._figures = {}
        # Tuples of the names of both figures, the group and the paper.
        self._papers = []

    def put(self, name, figure):
        """Keep a figure; the papers from and to an old one of this name are given up."""
        self._figures[name] = list(figure)
        self._papers = [row for row in self._papers if row[0] != name and row[1] != name]

    def figure(self, name):
        """The polygons of a figure, as they were put."""
        self._look_for(name)
        return list(self._figures[name])

    def names(self):
        """The names of all figures, ascending."""
        return sorted(self._figures)

    def put_paper(self, first, second, group, paper):
        """Keep a paper for two figures and a group; WrongPaper if it is not right."""
        self._look_for(first)
        self._look_for(second)
        fault = find_fault(paper, self._figures[first], self._figures[second], group)
        if fault is not None:
            raise WrongPaper(fault)
        self._papers.append((first, second, group, list(paper)))

    def paper(self, first, second, group):
        """A right paper that follows from the book, None if none does."""
        self._look_for(first)
        self._look_for(second)
        ways = self._ways_from(first, group)
        if second not in ways:
            return None
        steps = []
        name = second
        while name != first:
            name, kept, backwards = ways[name]
            steps.append(inverse(kept) if backwards else list(kept))
        if not steps:
            return identity(self._figures[first])
        whole = steps.pop()
        while steps:
            whole = composed(whole, steps.pop())
        return whole

    def alike(self, name, group):
        """The names to which papers that follow from the book lead from a name, ascending."""
        self._look_for(name)
        return sorted(self._ways_from(name, group))

    def _look_for(self, name):
        if name not in self._figures:
            raise NoSuchFigure(name)

    def _ways_from(self, start, group):
        """For each name that is reached the last step: the name before it, the paper, and whether it leads back."""
        ways = {start: (start, [], False)}
        names = [start]
        # Names that are reached by few papers come first, so that no paper is made of more than need be.
        while names:
            found = []
            for name in names:
                for other, kept, backwards in self._steps_from(name, group):
                    if other not in ways:
                        ways[other] = (name, kept, backwards)
                        found.append(other)
            names = found
        return ways

    def _steps_from(self, name, group):
        """Tuples of a name to which a kept paper or its inverse leads, the paper, and whether it is the inverse."""
        steps = []
        for first, second, kept_group, kept in self._papers:
            if lies_in(kept_group, group):
                if first == name:
                    steps.append((second, kept, False))
                elif second == name:
                    steps.append((first, kept, True))
        return steps
