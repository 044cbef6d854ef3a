"""Logs that can be struck to nothing: a log is a text of letters, a book lists the pieces to strike."""
