"""Openlines: calls handed on along lines of kinds that are not built yet."""
