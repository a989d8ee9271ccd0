"""Programs that do and undo, and the one row of deeds that all their runs leave."""
