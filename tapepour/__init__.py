"""Tapepour: a hall of few tapes, runs poured from tape to tape."""
