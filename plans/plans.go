// Package plans: what is to be written on a disk, how it is carried out, and what is there if the power fails.
package plans

import (
	"pawl/api"
	"pawl/disks"
	"pawl/texts"
)

const writeSize = 1 + api.SectorSize

// Record is a barrier, or a write of a sector's bytes.
type Record struct {
	Barrier bool
	Sector  int
	Bytes   string
}

// Read tells the records of a plan, and whether it is one for a disk with so many sectors.
func Read(plan string, sectors int) ([]Record, bool) {
	if fewestRecords(len(plan)) > api.MaxPlan {
		return nil, false
	}
	records := []Record{}
	at := 0
	for at < len(plan) {
		record, size := readRecord(plan, at, sectors)
		if size == 0 || len(records) == api.MaxPlan {
			return nil, false
		}
		records = append(records, record)
		at += size
	}
	return records, true
}

// fewestRecords tells how many records a plan of a length has at least: as many writes as it has room for, and barriers.
// By this a plan that is too long is found out before any of it is read.
func fewestRecords(length int) int {
	return length/writeSize + length%writeSize
}

// readRecord tells the record at a place of a plan, and its size: 0, if there is none.
func readRecord(plan string, at int, sectors int) (Record, int) {
	first := texts.Byte(plan, at)
	if first == api.Barrier {
		return Record{Barrier: true}, 1
	}
	bytes := texts.Part(plan, at+1, api.SectorSize)
	if first >= sectors || bytes == "" {
		return Record{}, 0
	}
	return Record{Sector: first, Bytes: bytes}, writeSize
}

// CarryOut tells the disk with all writes done.
func CarryOut(disk string, records []Record) string {
	for i := 0; i < len(records); i++ {
		disk = do(disk, records[i])
	}
	return disk
}

// Fail tells what is there when the power has failed behind the first n records.
func Fail(disk string, records []Record, n int, keep string) string {
	if n < 0 || n > len(records) {
		return disk
	}
	firm := lastBarrier(records[:n])
	loose := 0
	for i := 0; i < n; i++ {
		if records[i].Barrier {
			continue
		}
		if i < firm {
			disk = do(disk, records[i])
			continue
		}
		if texts.Byte(keep, loose) == '1' {
			disk = do(disk, records[i])
		}
		loose++
	}
	return disk
}

// lastBarrier tells where the last barrier stands; without one, -1.
func lastBarrier(records []Record) int {
	for i := len(records) - 1; i >= 0; i-- {
		if records[i].Barrier {
			return i
		}
	}
	return -1
}

func do(disk string, record Record) string {
	if record.Barrier {
		return disk
	}
	return disks.Write(disk, record.Sector, record.Bytes)
}
