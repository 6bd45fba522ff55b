"""What a change of a tree and its settings touches."""

from kilnyard.plain import settled_build
from kilnyard.records import question
from kilnyard.rings import reach
from kilnyard.sources import is_missing, persons_content, see_source
from kilnyard.targets import maker


def changed_paths(before, after):
    """The paths whose person's entry is not the same in both trees."""
    paths = sorted(set(before.paths() + after.paths()))
    return [path for path in paths if _persons_entry(before, path) != _persons_entry(after, path)]


def touched_jobs(book, goals, before, before_settings, after, after_settings):
    """The names of the jobs that are done in the world before and may come out otherwise in the world after."""
    plain = settled_build(before, book, before_settings, goals)
    if plain is None:
        return []
    done = [name for name in sorted(plain.jobs) if name not in plain.failures]
    first = [name for name in done
             if _is_first_touched(plain.jobs[name], plain.runs[name], book, after, after_settings)]
    # Done jobs make use of done jobs alone.
    graph = {name: plain.uses(name) for name in done}
    return [name for name in done if name in first or any([other in first for other in reach(graph, name)])]


def _persons_entry(tree, path):
    """The target of the link at a path and the content of the person's file there, each of them or None."""
    return tree.target(path), persons_content(tree, path)


def _is_first_touched(job, run, book, after, after_settings):
    """True if an input of a done job is missing in the world after, or its last run would see something else there."""
    if any([is_missing(after, book, path) for path in job.inputs]):
        return True
    for need in run.needs:
        made = need[0] == "file" and maker(book, need[1]) is not None
        if not made and see_source(after, book, after_settings, question(need)) != need[-1]:
            return True
    return False
