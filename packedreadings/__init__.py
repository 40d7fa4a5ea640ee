"""An archive of readings, packed in bits."""
