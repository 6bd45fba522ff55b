"""The tests of Kilnyard."""
