"""Otherpace: endless walks, their prices and their paces."""
