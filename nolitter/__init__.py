"""Nolitter: programs that run back, and leave nothing behind."""
