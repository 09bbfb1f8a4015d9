"""Graincourse: rules for dividing a whole, and the shares that they guarantee."""
