"""Kilnyard: incremental builds on several hosts."""
