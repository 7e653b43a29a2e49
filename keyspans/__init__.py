"""Keyspans: services that spread records over lanes by keys."""
