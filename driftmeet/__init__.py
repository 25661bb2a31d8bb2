"""Driftmeet: hands with clocks, and what each knows of the time."""
