"""Roomtables: functions that call themselves on lesser things, and the rooms that their answers need."""
