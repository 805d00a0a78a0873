"""Stepwright: rules by which motions are stepped, their orders shown exactly."""
