"""Signs put together of parts in boxes, and the order in which their strokes are written."""
