"""Timesover tells when no work can come to a place any more; see README.md."""
