"""Knotweb: functions of yes and no as one web, its order changed amid use."""
