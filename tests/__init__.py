"""Tests of chipstack."""
