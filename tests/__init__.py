"""Tests of stepwright."""
