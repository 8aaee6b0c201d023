"""Wagoncalls: wagons sent to calls in a town."""
