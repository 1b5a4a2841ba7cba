"""Watchedrun: programs of rows, watched by parts of their own while they run."""
