package disks

import (
	"math"
	"strings"
	"testing"
)

func row(c string) string { return strings.Repeat(c, 32) }

func TestIsDisk(t *testing.T) {
	for length := range 1400 {
		want := length >= 32 && length <= 1280 && length%32 == 0
		if is := IsDisk(strings.Repeat("x", length)); is != want {
			t.Errorf("IsDisk of %d bytes is %t", length, is)
		}
	}
}

func TestSectors(t *testing.T) {
	disk := row("a") + row("b") + row("c")
	if n := Sectors(disk); n != 3 {
		t.Errorf("Sectors = %d, want 3", n)
	}
	for number, want := range []string{row("a"), row("b"), row("c"), ""} {
		if s := Sector(disk, number); s != want {
			t.Errorf("Sector(%d) = %q", number, s)
		}
	}
	for _, number := range []int{-1, 3, 40, math.MaxInt, math.MinInt} {
		if s := Sector(disk, number); s != "" {
			t.Errorf("Sector(%d) = %q", number, s)
		}
	}
}

func TestWrite(t *testing.T) {
	disk := row("a") + row("b") + row("c")
	for _, c := range []struct {
		number      int
		bytes, want string
	}{
		{0, row("x"), row("x") + row("b") + row("c")}, {1, row("x"), row("a") + row("x") + row("c")}, {2, row("x"), row("a") + row("b") + row("x")},
		{3, row("x"), disk}, {-1, row("x"), disk}, {math.MaxInt, row("x"), disk}, {math.MinInt, row("x"), disk}, {1, "x", disk}, {1, row("x") + "x", disk},
	} {
		if d := Write(disk, c.number, c.bytes); d != c.want {
			t.Errorf("Write(.., %d, %q) = %q", c.number, c.bytes, d)
		}
	}
}
