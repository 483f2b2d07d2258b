"""A shell: a bench that is asked, and edited, by lines of text."""

from unevenroads.benches import Bench
from unevenroads.edittexts import edit_of
from unevenroads.errors import UnevenError
from unevenroads.joining import class_of
from unevenroads.webtexts import is_figures, standing_text


def _lets(bench, name):
    """The let deeds, each as the road and a sign."""
    deeds = [f"{road}+" if by == 1 else f"{road}-" for road, by in bench.lets(name)]
    return " ".join(deeds) if deeds else "none"


def _class(bench, name):
    """The word of the class, for walls their number too."""
    web, standing = bench[name]
    return " ".join([str(item) for item in class_of(web, standing)])


def _size(bench, name):
    """How many standings are joined."""
    return str(bench.size(name))


def _show(bench, name):
    """The standing in figures."""
    _, standing = bench[name]
    return standing_text(standing)


QUESTIONS = {"lets": _lets, "class": _class, "size": _size, "show": _show}


class Shell:
    """A bench of its own, to which lines are said."""

    def __init__(self):
        self._bench = Bench()

    def say(self, line):
        """The answer to a line; "what" to all that is no line."""
        if not isinstance(line, str):
            return "what"
        words = line.split(" ")
        try:
            if len(words) == 1:
                return self._answer_word(words[0])
            if words[0] == "do" and len(words) == 2:
                return self._answer_edit(words[1])
            return self._answer_question(words)
        except UnevenError as error:
            return f"error {error.__class__.__name__}"

    def _answer_word(self, word):
        """The answer to a line of one word."""
        if word == "undo":
            return f"version {self._bench.undo()}"
        if word == "redo":
            return f"version {self._bench.redo()}"
        if word == "names":
            names = list(self._bench)
            return " ".join(names) if names else "none"
        return "what"

    def _answer_edit(self, text):
        """The answer to an edit."""
        edit = edit_of(text)
        if edit is None:
            return "what"
        return f"version {self._bench.do(edit)}"

    def _answer_question(self, words):
        """The answer to a question about a name."""
        word, name = words[:2]
        if name == "":
            return "what"
        if word in QUESTIONS and len(words) == 2:
            question = QUESTIONS[word]
            return question(self._bench, name)
        if word == "joined" and len(words) == 3 and is_figures(words[2]):
            standing = tuple([int(figure) for figure in words[2]])
            return "yes" if self._bench.joined(name, standing) else "no"
        return "what"
