package store

import (
	"pawl/boxes"
	"pawl/disks"
	"pawl/plans"
)

// Create tells a safe plan from a blank disk to the one with a box.
// Sector 0 is written last: while it is noughts, the disk's repair is the blank one.
func Create(disk string, b boxes.Box) string {
	sectors := disks.Sectors(disk)
	to := lay(b, 0, sectors)
	side := plans.Changes(disk, to, 1, sectors)
	first := plans.Changes(disk, to, 0, 1)
	return side + first
}

// Recover tells a plan from a disk to its repair.
// It needs no order: sector 0 and the live side, by which the repair goes, are not written.
func Recover(disk string, state State) string {
	return plans.Changes(disk, state.Repaired, 0, disks.Sectors(disk))
}

// Replace tells a safe plan from a good disk to the one with another box of the same cap on its other side.
// Sector 0 alone decides between the two: it turns when the new side is whole, and before the old one is lost.
func Replace(disk string, state State, b boxes.Box) string {
	live := 1 - state.Live
	to := lay(b, live, disks.Sectors(disk))
	fresh := sideChanges(disk, to, b.Cap, live)
	first := plans.Changes(disk, to, 0, 1)
	stale := sideChanges(disk, to, b.Cap, state.Live)
	return fresh + first + stale
}

func sideChanges(disk string, to string, most int, side int) string {
	size := boxes.SideSize(most)
	first := 1 + side*size
	return plans.Changes(disk, to, first, first+size)
}
