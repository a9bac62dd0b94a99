"""Decides whether jobs that fail and are run again end as one run without failure does."""
