"""The air: stations that roam. What it answers is asked in roamair.world."""
