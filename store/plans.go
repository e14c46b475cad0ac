package store

import (
	"pawl/boxes"
	"pawl/disks"
	"pawl/plans"
)

// Create tells a safe plan from a blank disk to the one with a box.
// Sector 0 is written last: while it is noughts, the disk's repair is the blank one.
func Create(disk string, b boxes.Box) string {
	sectors := disks.Sectors(disk)
	to := lay(b, 0, sectors)
	side := plans.Changes(disk, to, 1, sectors)
	first := plans.Changes(disk, to, 0, 1)
	return side + first
}

// Recover tells a plan from a disk to its repair.
// It needs no order: sector 0 and the live side, by which the repair goes, are not written.
func Recover(disk string, state State) string {
	return plans.Changes(disk, state.Repaired, 0, disks.Sectors(disk))
}
