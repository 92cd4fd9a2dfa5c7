"""Cairn: a distributed file store that survives lost disks, lost letters and crashes."""
