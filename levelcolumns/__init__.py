"""Levelcolumns: nested records kept as columns with levels."""
