// Package disks: disks as rows of sectors.
package disks

import (
	"pawl/api"
	"pawl/texts"
)

// IsDisk tells whether a text is a disk. Its length alone decides.
func IsDisk(text string) bool {
	return len(text) >= api.SectorSize && len(text) <= api.MaxSectors*api.SectorSize && len(text)%api.SectorSize == 0
}

// Sectors tells how many sectors a disk has.
func Sectors(disk string) int { return len(disk) / api.SectorSize }

// Sector tells the bytes of a sector; of one that the disk has not, nothing.
func Sector(disk string, number int) string {
	if number < 0 || number >= Sectors(disk) {
		return ""
	}
	return texts.Part(disk, number*api.SectorSize, api.SectorSize)
}

// Write tells the disk with a sector's bytes laid over; a sector that the disk has not changes nothing.
func Write(disk string, number int, bytes string) string {
	if number < 0 || number >= Sectors(disk) || len(bytes) != api.SectorSize {
		return disk
	}
	from := number * api.SectorSize
	return disk[:from] + bytes + disk[from+api.SectorSize:]
}
