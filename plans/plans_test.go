package plans

import (
	"math"
	"slices"
	"strings"
	"testing"
)

func row(c string) string { return strings.Repeat(c, 32) }

func TestRead(t *testing.T) {
	records, right := Read("\x01"+row("a")+"\xff\x00"+row("b"), 2)
	want := []Record{{Sector: 1, Bytes: row("a")}, {Barrier: true}, {Sector: 0, Bytes: row("b")}}
	if !right || !slices.Equal(records, want) {
		t.Errorf("Read = %+v, %t", records, right)
	}
	for _, plan := range []string{"\x02" + row("a"), "\x01" + row("a")[1:], "\x01", "\xff\x00", strings.Repeat("\xff", 101)} {
		if records, right := Read(plan, 2); right || records != nil {
			t.Errorf("Read(%q) = %+v, %t", plan, records, right)
		}
	}
	if records, right := Read("", 1); !right || len(records) != 0 {
		t.Errorf("Read of the empty plan = %+v, %t", records, right)
	}
}

func TestFewestRecords(t *testing.T) {
	for _, c := range []struct{ length, want int }{{0, 0}, {1, 1}, {32, 32}, {33, 1}, {34, 2}, {3300, 100}, {3301, 101}} {
		if n := fewestRecords(c.length); n != c.want {
			t.Errorf("fewestRecords(%d) = %d, want %d", c.length, n, c.want)
		}
	}
}

func TestFail(t *testing.T) {
	two := row("\x00") + row("\x00")
	records := []Record{{Sector: 1, Bytes: row("a")}, {Barrier: true}, {Sector: 0, Bytes: row("b")}, {Sector: 1, Bytes: row("c")}}
	if d := CarryOut(two, records); d != row("b")+row("c") {
		t.Errorf("CarryOut = %q", d)
	}
	for _, c := range []struct {
		n    int
		keep string
		want string
	}{
		{0, "1", two}, {1, "", two}, {1, "1", row("\x00") + row("a")}, {2, "", row("\x00") + row("a")}, {4, "", row("\x00") + row("a")}, {4, "01", row("\x00") + row("c")}, {4, "11", row("b") + row("c")},
		{-1, "1", two}, {5, "1", two}, {math.MaxInt, "1", two}, {math.MinInt, "1", two},
	} {
		if d := Fail(two, records, c.n, c.keep); d != c.want {
			t.Errorf("Fail(.., %d, %q) = %q, want %q", c.n, c.keep, d, c.want)
		}
	}
}

func TestChanges(t *testing.T) {
	from, to := row("a")+row("b")+row("c")+row("d"), row("x")+row("b")+row("y")+row("z")
	for _, c := range []struct {
		first, last int
		want        string
	}{
		{0, 4, "\x00" + row("x") + "\x02" + row("y") + "\x03" + row("z") + "\xff"},
		{0, 1, "\x00" + row("x") + "\xff"}, {2, 3, "\x02" + row("y") + "\xff"}, {1, 2, ""}, {0, 0, ""}, {3, 1, ""},
	} {
		if p := Changes(from, to, c.first, c.last); p != c.want {
			t.Errorf("Changes(.., %d, %d) = %q, want %q", c.first, c.last, p, c.want)
		}
	}
}
