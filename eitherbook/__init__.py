"""Eitherbook: statements of two each over switches, roads, settings, and what follows."""
