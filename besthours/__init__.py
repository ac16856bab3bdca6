"""Besthours: the one best timetable, with its proof."""
