"""Holdlane: stages that hand values on by lanes with little room."""
