"""Keyriders: programs of keyed exchanges, and a writer of programs from tables."""
