package log

import "varve/disk"

// region is the blocks of a disk in which those of a log go round.
type region struct {
	disk     *disk.Disk
	at, size int
}

// right tells whether all blocks of a region are the disk's.
func (r region) right() bool {
	// A disk that isn't there has no blocks. A difference, as the sum of at and size may wrap round.
	return r.at >= 0 && r.size >= 1 && r.at <= r.disk.Size()-r.size
}

// place is where the block of the log with a number stands.
func (r region) place(number uint32) int {
	return r.at + int(uint64(number)%uint64(r.size))
}
