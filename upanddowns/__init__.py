"""Upanddowns: orders that go up and down by turns."""
