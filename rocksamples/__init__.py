"""Samples: labels, boxes, hands, and what half legible labels surely say."""
