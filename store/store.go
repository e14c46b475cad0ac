// Package store: boxes on disks. It tells the sorts of disks apart and makes the plans that lead from one disk to another.
package store

import (
	"pawl/api"
	"pawl/boxes"
	"pawl/disks"
	"pawl/texts"
)

// Sort is what a disk is found to be.
type Sort int

const (
	Bad   Sort = 0
	Blank Sort = 1
	Torn  Sort = 2
	Good  Sort = 3
)

// State is what is found on a disk. Repaired is its repair; of a bad disk there is none. The live side and the box are those of a good disk.
type State struct {
	Sort     Sort
	Repaired string
	Live     int
	Box      boxes.Box
}

const mark = "PAWL"

// Where sector 0 tells the cap and the live side.
const (
	atCap  = 4
	atLive = 5
)

// Find tells what is on a disk.
func Find(disk string) State {
	blank := texts.Noughts(len(disk))
	if disk == blank {
		return State{Sort: Blank, Repaired: blank}
	}
	if texts.IsNoughts(disks.Sector(disk, 0)) {
		return State{Sort: Torn, Repaired: blank}
	}
	live := texts.Byte(disk, atLive)
	box, right := readBox(disk, live)
	if !right {
		return State{Sort: Bad}
	}
	repaired := lay(box, live, disks.Sectors(disk))
	if disk != repaired {
		return State{Sort: Torn, Repaired: repaired}
	}
	return State{Sort: Good, Repaired: repaired, Live: live, Box: box}
}

// readBox tells the box of a disk, and whether there are a right sector 0 and a right live side.
func readBox(disk string, live int) (boxes.Box, bool) {
	most := texts.Byte(disk, atCap)
	if most > api.MaxCap || live > 1 || disks.Sectors(disk) < boxes.Need(most) {
		return boxes.Box{}, false
	}
	if disks.Sector(disk, 0) != firstSector(most, live) {
		return boxes.Box{}, false
	}
	size := boxes.SideSize(most) * api.SectorSize
	return boxes.Read(texts.Part(disk, api.SectorSize+live*size, size), most)
}

// lay tells the good disk with a box.
func lay(b boxes.Box, live int, sectors int) string {
	disk := firstSector(b.Cap, live)
	side := boxes.Side(b)
	if live == 1 {
		disk += texts.Noughts(len(side))
	}
	disk += side
	return disk + texts.Noughts(sectors*api.SectorSize-len(disk))
}

func firstSector(most int, live int) string {
	sector := mark + string([]byte{byte(most), byte(live)})
	return sector + texts.Noughts(api.SectorSize-len(sector))
}
