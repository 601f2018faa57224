"""Twicedated: a records office that never forgets what it said."""
