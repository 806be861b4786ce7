"""Sets that share one core and else nothing."""
