"""Systems of rising calls, judged for all kinds and for all foes."""
