"""Views: what is seen at one host, for one build."""

from kilnyard.errors import Held
from kilnyard.sources import key_or_none, persons_content, see_source
from kilnyard.targets import maker


class View:
    """Answers questions as things are now in a tree, for a book and settings, and the jobs that are done."""

    def __init__(self, tree, book, settings):
        self.tree = tree
        self.book = book
        self.settings = dict(settings)
        # The names of the done jobs, by their rules and stems.
        self._done = {}

    def mark_done(self, job):
        """Makes a job done."""
        self._done[(job.rule, job.stem)] = job.name()

    def is_done(self, job):
        """True if a job is done."""
        return (job.rule, job.stem) in self._done

    def without(self, name):
        """A new view in which the job of this name is not done, and which is otherwise the same."""
        view = View(self.tree, self.book, self.settings)
        view._done = {mark: other for mark, other in self._done.items() if other != name}
        return view

    def is_source(self, path):
        """True if no job makes a path and a person's file is there."""
        return maker(self.book, path) is None and persons_content(self.tree, path) is not None

    def see(self, question):
        """What is seen; the key of a content that a job makes only if the job is done."""
        if question[0] == "file":
            job = maker(self.book, question[1])
            if job is not None:
                return self._see_made(job, question[1])
        return see_source(self.tree, self.book, self.settings, question)

    def _see_made(self, job, path):
        """The key of the content at a path that a job makes, or None."""
        if not self.is_done(job):
            raise Held(job)
        return key_or_none(self.tree.read(path))
