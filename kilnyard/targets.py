"""Jobs, the paths that they make, and listings."""

from kilnyard.errors import InvalidPath
from kilnyard.keys import content_key
from kilnyard.paths import directory, fill, stem_of
from kilnyard.printing import format_rule

# A listing of this length is longer than a value may be, so the tool that asks for it fails.
LISTING_LENGTH = 401


class Job:
    """A rule, by its index in the book, together with a stem."""

    def __init__(self, rule, stem, outputs, inputs):
        self.rule = rule
        self.stem = stem
        self.outputs = outputs
        self.inputs = inputs

    def __eq__(self, other):
        return isinstance(other, Job) and self.rule == other.rule and self.stem == other.stem

    def name(self):
        """The first output."""
        return self.outputs[0]


def make_job(book, rule, stem):
    """The job of the rule with this index."""
    outputs = tuple([fill(pattern, stem) for pattern in book.rules[rule].outputs])
    inputs = tuple([fill(pattern, stem) for pattern in book.rules[rule].inputs])
    return Job(rule, stem, outputs, inputs)


def owner(book, path):
    """The job that owns a path, or None."""
    if path in book.files:
        return None
    for at, rule in enumerate(book.rules):
        if not rule.is_pattern() and path in rule.outputs:
            return make_job(book, at, "")
    for at, rule in enumerate(book.rules):
        job = _pattern_job(book, at, path) if rule.is_pattern() else None
        if job is not None:
            return job
    return None


def maker(book, path):
    """The job that makes a path, or None."""
    job = owner(book, path)
    if job is None or len(set(job.outputs)) < len(job.outputs):
        return None
    return job if all([owner(book, output) == job for output in job.outputs]) else None


def makers_of(book, paths):
    """The jobs that make the paths, each once, in the order of the paths."""
    jobs = {}
    for path in paths:
        job = maker(book, path)
        if job is not None:
            jobs[job.name()] = job
    return list(jobs.values())


def rule_text(book, job):
    """The rule text of a job: its stem and the written form of its rule."""
    return f"stem {job.stem}\n{format_rule(book.rules[job.rule])}"


def rule_key(book, job):
    """The key of the rule text of a job."""
    return content_key(rule_text(book, job))


def plain_outputs(book):
    """The outputs of all plain rules in ascending order."""
    return sorted([path for rule in book.rules if not rule.is_pattern() for path in rule.outputs])


def listing_text(tree, book, folder, pattern):
    """The text of the listing of a directory and a name pattern."""
    outputs = [path for path in plain_outputs(book) if _is_listed(path, folder, pattern)]
    entries = [path for path in tree.paths() if _is_listed(path, folder, pattern)]
    sources = [path for path in entries if _is_persons(tree, path) and maker(book, path) is None]
    return "\n".join(sorted(set(outputs + sources)))[:LISTING_LENGTH]


def _pattern_job(book, at, path):
    """The job of a pattern rule that owns a path if no rule before does, or None."""
    stems = [stem_of(pattern, path) for pattern in book.rules[at].outputs]
    fitting = [stem for stem in stems if stem is not None]
    if fitting == []:
        return None
    try:
        return make_job(book, at, fitting[0])
    except InvalidPath:
        return None


def _is_listed(path, folder, pattern):
    """True if a path is in the directory and its last name matches the pattern."""
    return directory(path) == folder and stem_of(pattern, path.rpartition("/")[2]) is not None


def _is_persons(tree, path):
    """True if a link or a file of a person is at the path."""
    return tree.kind(path) == "link" or tree.writer(path) == "person"
