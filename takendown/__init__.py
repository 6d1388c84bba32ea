"""Devices whose works start one another, taken down by a row of steps."""
