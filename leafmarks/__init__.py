"""Leafmarks: places of reading on several devices and in several editions."""
