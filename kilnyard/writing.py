"""The writes with which the result of a run is brought to a host."""

from kilnyard.keys import content_key
from kilnyard.records import Record
from kilnyard.targets import rule_key


def planned_writes(book, job, run, hall):
    """The writes of a run that was done, in their order; the hall is None if there is none."""
    keys = tuple([content_key(text) for text in run.outputs])
    record = Record(job.outputs, rule_key(book, job), run.needs, keys)
    planned = [("content", text) for text in run.outputs] + [("record", record)]
    if hall is not None:
        planned = planned + [("hall content", text) for text in run.outputs] + [("hall record", record)]
    return planned + [("file", path, text) for path, text in zip(job.outputs, run.outputs)]


def carry_out(write, tree, store, hall):
    """Does one write."""
    kind = write[0]
    if kind == "content":
        store.put_content(write[1])
    elif kind == "record":
        store.add_record(write[1])
    elif kind == "hall content":
        hall.put_content(write[1])
    elif kind == "hall record":
        hall.add_record(write[1])
    else:
        tree.write(write[1], write[2], "build")
