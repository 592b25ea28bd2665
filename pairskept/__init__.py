"""Pairskept: cores on one memory, which pairs stay in order, and what that lets be seen."""
