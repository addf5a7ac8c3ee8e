"""Leadlight: a window of leads and glass."""
