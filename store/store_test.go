package store

import (
	"reflect"
	"strings"
	"testing"

	"pawl/api"
	"pawl/boxes"
)

func zeros(size int) string { return strings.Repeat("\x00", size) }

func TestFind(t *testing.T) {
	b := boxes.New(api.Config{Role: 1, Skip: 1}, "12345678", 2)
	b.Kept = []boxes.Kept{}
	side := "\x01\x00\x00\x00\x00\x01\x00\x00" + "12345678" + zeros(16) + "\x00\x00\x00\x02" + zeros(28)
	good0 := "PAWL\x00\x00" + zeros(26) + side + zeros(64)
	good1 := "PAWL\x00\x01" + zeros(26) + zeros(64) + side
	for _, c := range []struct {
		disk string
		want State
	}{
		{zeros(160), State{Sort: Blank, Repaired: zeros(160)}},
		{zeros(159) + "x", State{Sort: Torn, Repaired: zeros(160)}},
		{good0, State{Sort: Good, Repaired: good0, Box: b}},
		{good1, State{Sort: Good, Repaired: good1, Live: 1, Box: b}},
		{good0 + zeros(32), State{Sort: Good, Repaired: good0 + zeros(32), Box: b}},
		{good0[:159] + "x", State{Sort: Torn, Repaired: good0}},
		{good1 + zeros(31) + "x", State{Sort: Torn, Repaired: good1 + zeros(32)}},
		{good0[:128], State{Sort: Bad}},
		{"x" + good0[1:], State{Sort: Bad}},
		{good0[:95] + "x" + good0[96:], State{Sort: Bad}},
		{good0[:5] + "\x01" + good0[6:], State{Sort: Bad}},
	} {
		if state := Find(c.disk); !reflect.DeepEqual(state, c.want) {
			t.Errorf("Find(%q) = %+v, want %+v", c.disk, state, c.want)
		}
	}
}

func TestCreateWritesSectorNoughtLast(t *testing.T) {
	plan := Create(zeros(160), boxes.New(api.Config{Role: 1, Skip: 1}, "12345678", 2))
	want := "\x01" + "\x01\x00\x00\x00\x00\x01\x00\x00" + "12345678" + zeros(16) + "\x02" + "\x00\x00\x00\x02" + zeros(28) + "\xff" + "\x00" + "PAWL" + zeros(28) + "\xff"
	if plan != want {
		t.Errorf("Create = %q, want %q", plan, want)
	}
}

func TestRecoverWritesNoMoreThanItMust(t *testing.T) {
	disk := zeros(64) + strings.Repeat("x", 32) + zeros(64)
	if plan := Recover(disk, Find(disk)); plan != "\x02"+zeros(32)+"\xff" {
		t.Errorf("Recover = %q", plan)
	}
	if plan := Recover(zeros(160), Find(zeros(160))); plan != "" {
		t.Errorf("Recover of a blank disk = %q", plan)
	}
}

func TestReplaceTurnsSectorNoughtBetweenTheSides(t *testing.T) {
	b := boxes.New(api.Config{Role: 1, Skip: 1}, "12345678", 2)
	side := "\x01\x00\x00\x00\x00\x01\x00\x00" + "12345678" + zeros(16) + "\x00\x00\x00\x02" + zeros(28)
	good0 := "PAWL\x00\x00" + zeros(26) + side + zeros(64)
	good1 := "PAWL\x00\x01" + zeros(26) + zeros(64) + side
	b.Root = "87654321"
	head, rest := "\x01\x00\x00\x00\x00\x01\x00\x00"+"87654321"+zeros(16), "\x00\x00\x00\x02"+zeros(28)
	want := "\x03" + head + "\x04" + rest + "\xff" + "\x00PAWL\x00\x01" + zeros(26) + "\xff" + "\x01" + zeros(32) + "\x02" + zeros(32) + "\xff"
	if plan := Replace(good0, Find(good0), b); plan != want {
		t.Errorf("Replace of side 0 = %q, want %q", plan, want)
	}
	want = "\x01" + head + "\x02" + rest + "\xff" + "\x00PAWL\x00\x00" + zeros(26) + "\xff" + "\x03" + zeros(32) + "\x04" + zeros(32) + "\xff"
	if plan := Replace(good1+zeros(32), Find(good1+zeros(32)), b); plan != want {
		t.Errorf("Replace of side 1 = %q, want %q", plan, want)
	}
}
