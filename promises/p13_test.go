package promises

import (
	"fmt"
	"math/rand"
	"testing"

	"pawl/api"
	"pawl/pawl"
)

func TestP13Example10(t *testing.T) {
	first, second := pair(3, 1)
	a, b := first.disk(0, 0), second.disk(0, 0)
	x, y, z := send(t, &a, "x"), send(t, &a, "y"), send(t, &a, "z")
	receive(t, &b, z, 5, "z", api.OK)
	wantLook(t, "P13: example 10", b, 2, 3, 0, "\x01\x01")
	receive(t, &b, x, 5, "", api.ErrGone)
	receive(t, &b, y, 5, "y", api.OK)
	wantLook(t, "P13: example 10", b, 2, 3, 0, "")
}

// wantKept takes a letter, and looks which keys are kept then.
func wantKept(t *testing.T, what string, b box, letter string, want string) {
	t.Helper()
	for live := range 2 {
		place{live, live, true}.wantAnswer(t, "P13: "+what, b, letter, 3, api.OK)
		disk := b.disk(live, live)
		_, plan, e := pawl.Receive(disk, letter, 3)
		there, f := pawl.Apply(disk, plan)
		v, g := pawl.Look(there)
		if e != api.OK || f != api.OK || g != api.OK || v.Kept != want {
			t.Errorf("P13: %s: kept %x, want %x (%d, %d, %d)", what, v.Kept, want, e, f, g)
		}
	}
}

func TestP13TheLeastAreDropped(t *testing.T) {
	b := bare(6, 9, 4, 4)
	b.kept = []kept{{1, 48, "key-key1"}, {3, 0, "key-key2"}, {3, 49, "key-key3"}, {5, 2, "key-key4"}}
	for _, c := range []struct {
		what              string
		cap               int
		step, count, prev int
		kept              string
	}{
		{"due, none passed over", 4, 5, 9, 0, "\x01\x30\x03\x00\x03\x31\x05\x02"},
		{"due, one passed over", 4, 5, 10, 0, "\x03\x00\x03\x31\x05\x02\x05\x09"},
		{"due, two passed over", 4, 5, 11, 0, "\x03\x31\x05\x02\x05\x09\x05\x0a"},
		{"due, three passed over", 4, 5, 12, 0, "\x05\x02\x05\x09\x05\x0a\x05\x0b"},
		{"due, with room for one", 5, 5, 11, 0, "\x03\x00\x03\x31\x05\x02\x05\x09\x05\x0a"},
		{"due, with room for all", 6, 5, 11, 0, "\x01\x30\x03\x00\x03\x31\x05\x02\x05\x09\x05\x0a"},
		{"turning, none passed over", 4, 7, 0, 9, "\x01\x30\x03\x00\x03\x31\x05\x02"},
		{"turning, one passed over by prev", 4, 7, 0, 10, "\x03\x00\x03\x31\x05\x02\x05\x09"},
		{"turning, one passed over by count", 4, 7, 1, 9, "\x03\x00\x03\x31\x05\x02\x07\x00"},
		{"turning, one passed over by each", 4, 7, 1, 10, "\x03\x31\x05\x02\x05\x09\x07\x00"},
		{"turning, all of the old ones dropped", 4, 7, 4, 9, "\x07\x00\x07\x01\x07\x02\x07\x03"},
		{"turning, new ones dropped at once", 4, 7, 3, 12, "\x05\x0b\x07\x00\x07\x01\x07\x02"},
		{"turning, as many as may be", 4, 7, 4, 12, "\x07\x00\x07\x01\x07\x02\x07\x03"},
		{"turning, with room for all", 11, 7, 4, 12, "\x01\x30\x03\x00\x03\x31\x05\x02\x05\x09\x05\x0a\x05\x0b\x07\x00\x07\x01\x07\x02\x07\x03"},
		{"turning, with room for all but one", 10, 7, 4, 12, "\x03\x00\x03\x31\x05\x02\x05\x09\x05\x0a\x05\x0b\x07\x00\x07\x01\x07\x02\x07\x03"},
		{"old, and none dropped", 4, 3, 0, 0, "\x01\x30\x03\x31\x05\x02"},
		{"old, the least", 4, 1, 48, 50, "\x03\x00\x03\x31\x05\x02"},
		{"old, the greatest", 4, 5, 2, 0, "\x01\x30\x03\x00\x03\x31"},
	} {
		b.cap = c.cap
		wantKept(t, c.what, b, letterFor(b, c.step, c.count, c.prev, 5, "text"), c.kept)
	}
}

// Cap 0 keeps nothing, and yet skip lets letters be passed over.
func TestP13NothingIsKept(t *testing.T) {
	for skip := range 13 {
		b := bare(6, 9, skip, 0)
		for count := 9; count <= 9+skip; count++ {
			wantKept(t, "cap 0, due", b, letterFor(b, 5, count, 0, 5, "x"), "")
		}
		wantKept(t, "cap 0, turning", b, letterFor(b, 7, skip, 9+skip, 5, "x"), "")
		place{}.wantAnswer(t, "P13: cap 0, due", b, letterFor(b, 5, 10+skip, 0, 5, "x"), 1, api.ErrSkip)
		place{}.wantAnswer(t, "P13: cap 0, turning", b, letterFor(b, 7, skip+1, 9, 5, "x"), 1, api.ErrSkip)
		place{}.wantAnswer(t, "P13: cap 0, turning", b, letterFor(b, 7, 0, 10+skip, 5, "x"), 1, api.ErrSkip)
	}
}

// What a letter would drop counts against skip; what an earlier one has dropped does not.
func TestP13SkipCountsWhatWouldBeDropped(t *testing.T) {
	b := bare(6, 0, 3, 1)
	place{}.wantAnswer(t, "P13: one would be kept, four made", b, letterFor(b, 5, 4, 0, 5, "x"), 1, api.ErrSkip)
	b = place{}.wantAnswer(t, "P13: one is kept, three made", b, letterFor(b, 5, 3, 0, 5, "x"), 1, api.OK)
	if len(b.kept) != 1 || b.kept[0].count != 2 {
		t.Fatalf("P13: kept %x", b.view().Kept)
	}
	place{}.wantAnswer(t, "P13: the one that is kept counts", b, letterFor(b, 5, 7, 0, 5, "x"), 1, api.ErrSkip)
	place{}.wantAnswer(t, "P13: the one that is kept counts, turning", b, letterFor(b, 7, 0, 7, 5, "x"), 1, api.ErrSkip)
	place{}.wantAnswer(t, "P13: those that were dropped do not count", b, letterFor(b, 5, 6, 0, 5, "x"), 1, api.OK)
	place{}.wantAnswer(t, "P13: those that were dropped do not count, turning", b, letterFor(b, 7, 3, 6, 5, "x"), 1, api.OK)
	// Of the new step there are too many, though all that are kept behind that would be few.
	place{}.wantAnswer(t, "P13: too many of the new step", b, letterFor(b, 7, 4, 4, 5, "x"), 1, api.ErrSkip)
}

// Each cap, with each number of keys kept before it that fits, and with many new ones.
func TestP13EveryCap(t *testing.T) {
	for most := range 31 {
		for keys := range min(most, 24) + 1 {
			b := bare(9, 9, 12, most)
			for i := range keys {
				b.kept = append(b.kept, kept{2 + 2*(i/8), 10 + i%8, someText(8 + i)[:8]})
			}
			for _, c := range [][3]int{{8, 9, 0}, {8, 15, 0}, {8, 21, 0}, {10, 0, 9}, {10, 5, 10}, {10, 12, 21}} {
				letter := letterFor(b, c[0], c[1], c[2], 5, "x")
				after := place{live: keys % 2}.wantAnswer(t, "P13: every cap", b, letter, 3, api.OK)
				made := max(0, c[1]-9)
				if c[0] == 10 {
					made = c[1] + c[2] - 9
				}
				if want := min(most, len(b.kept)+made); len(after.kept) != want {
					t.Fatalf("P13: cap %d, %d kept before, %d made: %d kept, want %d", most, len(b.kept), made, len(after.kept), want)
				}
			}
		}
	}
}

// What was dropped is gone for good, and what is left opens its letters, whatever comes first.
func TestP13WhatIsLeftOpens(t *testing.T) {
	from := rand.New(rand.NewSource(13))
	for range 60 {
		skip, most := 1+from.Intn(12), from.Intn(12)
		first, second := pair(skip, most)
		a, b := first.disk(0, 0), second.disk(0, 0)
		var letters []string
		for i := range skip + 1 {
			letters = append(letters, send(t, &a, fmt.Sprint(i)))
		}
		receive(t, &b, letters[skip], 5, fmt.Sprint(skip), api.OK)
		for _, i := range from.Perm(skip) {
			if i < skip-most {
				receive(t, &b, letters[i], 5, "", api.ErrGone)
			} else {
				receive(t, &b, letters[i], 5, fmt.Sprint(i), api.OK)
			}
		}
		wantLook(t, "P13: all taken", b, 2, skip+1, 0, "")
	}
}
