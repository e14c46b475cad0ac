package promises

import (
	"fmt"
	"math/rand"
	"testing"

	"pawl/api"
	"pawl/pawl"
)

// wantRecovered recovers a disk, fails in that wherever it may, and recovers again what is then there.
func wantRecovered(t *testing.T, what string, disk string, want string) {
	t.Helper()
	plan, e := pawl.Recover(disk)
	if e != api.OK {
		t.Fatalf("%s: Recover(%x): %d", what, disk, e)
	}
	wantSure(t, what, disk, plan, want, want)
	there, e := pawl.Apply(disk, plan)
	wantText(t, what+", carried out", there, e, want, api.OK)
	again, e := pawl.Recover(there)
	if e != api.OK {
		t.Fatalf("%s: Recover(%x): %d", what, there, e)
	}
	wantSure(t, what+", once more", there, again, want, want)
}

func TestP10Known(t *testing.T) {
	two, three := second(), third().disk(1, 0)
	for _, c := range []struct{ what, disk, want string }{
		{"example 7", poke(two, 159, "\x01"), two},
		{"a blank sector", zeros(32), zeros(32)},
		{"a blank disk", zeros(1280), zeros(1280)},
		{"a good disk", two, two},
		{"a good disk with side 1 live", three, three},
		{"a last byte on noughts", zeros(159) + "\x01", zeros(160)},
		{"all but sector 0", zeros(32) + someDisk(39), zeros(1280)},
		{"a right side without sector 0", poke(two, 0, zeros(32)), zeros(160)},
		{"a side 1 without sector 0", poke(three, 0, zeros(32)), zeros(160)},
		{"the other side full", poke(two, 96, full("x")+full("y")), two},
		{"the other side 0 full", poke(three, 32, full("x")+full("y")), three},
		{"the same box on both sides", poke(three, 32, third().side()), three},
		{"a sector behind", two + full("x"), two + zeros(32)},
		{"sectors behind", three + full("x") + zeros(32) + full("z"), three + zeros(96)},
		{"all that is besides", poke(three, 32, full("x")+full("y")) + someDisk(35), three + zeros(35*32)},
	} {
		wantRecovered(t, "P10: "+c.what, c.disk, c.want)
	}
}

func TestP10EverySort(t *testing.T) {
	for _, disk := range someDisks() {
		sort, repair := modelSort(disk)
		if sort == api.ErrStore {
			plan, e := pawl.Recover(disk)
			wantText(t, fmt.Sprintf("P10: Recover(%x)", disk), plan, e, "", api.ErrStore)
			continue
		}
		wantRecovered(t, "P10: some disk", disk, repair)
	}
}

func TestP10SingleBytesTurned(t *testing.T) {
	for _, disk := range someDisks() {
		for at := range len(disk) {
			if len(disk) > 320 && at >= 128 && at%7 != 0 {
				continue
			}
			other := poke(disk, at, string([]byte{disk[at] ^ 1<<(at%8)}))
			sort, repair := modelSort(other)
			plan, e := pawl.Recover(other)
			if sort == api.ErrStore {
				wantText(t, fmt.Sprintf("P10: Recover(%x)", other), plan, e, "", api.ErrStore)
				continue
			}
			there, f := pawl.Apply(other, plan)
			if e != api.OK || f != api.OK || there != repair {
				t.Fatalf("P10: Recover(%x), carried out: %x, %d, %d, want %x", other, there, e, f, repair)
			}
		}
	}
}

func TestP10SomeTornDisks(t *testing.T) {
	from := rand.New(rand.NewSource(10))
	for range 150 {
		b := someBox(from)
		live, more := from.Intn(2), from.Intn(4)
		good := b.disk(live, more)
		there := []byte(good)
		copy(there[32:], someText(len(good)-32))
		copy(there[32+live*modelSide(b.cap):], b.side())
		if from.Intn(2) == 0 {
			other := 32 + (1-live)*modelSide(b.cap)
			copy(there[other:], someBox(from).side())
			copy(there[32+live*modelSide(b.cap):], b.side())
		}
		if from.Intn(4) == 0 {
			copy(there, zeros(32))
			good = zeros(len(good))
		}
		wantRecovered(t, "P10: a torn disk", string(there), good)
	}
}

// Failures in Create's plan and then in the plan that recovers: in the end the disk is blank, or the box is there.
func TestP10BehindCreate(t *testing.T) {
	from := rand.New(rand.NewSource(11))
	for _, c := range []api.Config{{Role: 1}, {Role: 0, Cap: 6, Skip: 3, Peer: 5}, {Role: 0, Cap: 30, Skip: 12, Peer: 1}} {
		need, _ := pawl.Need(c.Cap)
		blank := zeros(32 * (need + 1))
		plan, e := pawl.Create(blank, c, plain, 99)
		if e != api.OK {
			t.Fatalf("P8: Create: %d", e)
		}
		records, _ := modelRecords(plan, need+1)
		for n := range len(records) + 1 {
			for _, there := range crashed(from, blank, records, n) {
				_, repair := modelSort(there)
				if repair != blank && repair != modelCreate(c, plain, 99).disk(0, 1) {
					t.Fatalf("P8: behind %d records there may be %x", n, there)
				}
				wantRecovered(t, "P10: a failure in Create's plan", there, repair)
			}
		}
	}
}

func TestP10Errors(t *testing.T) {
	for _, disk := range noDisks {
		plan, e := pawl.Recover(disk)
		wantText(t, fmt.Sprintf("P10: Recover of %d bytes", len(disk)), plan, e, "", api.ErrDisk)
	}
	for _, c := range sides {
		b := third()
		c.change(&b)
		for live := range 2 {
			for _, disk := range []string{b.disk(live, 0), b.disk(live, 0) + full("x")} {
				if c.want == api.ErrStore {
					plan, e := pawl.Recover(disk)
					wantText(t, "P10: Recover, "+c.what, plan, e, "", api.ErrStore)
				} else {
					wantRecovered(t, "P10: "+c.what, disk, b.disk(live, len(disk)/32-len(b.disk(0, 0))/32))
				}
			}
		}
	}
	for _, disk := range []string{full("x"), poke(zeros(160), 31, "\x01"), poke(second(), 0, "\x00"), poke(second(), 32, "\x02"), poke(poke(second(), 95, "\x01"), 159, "\x01"), second()[:128], second()[:32]} {
		plan, e := pawl.Recover(disk)
		wantText(t, fmt.Sprintf("P10: Recover(%x)", disk), plan, e, "", api.ErrStore)
	}
}
