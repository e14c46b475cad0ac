package promises

import (
	"fmt"
	"math"
	"math/rand"
	"strings"
	"testing"

	"pawl/api"
	"pawl/pawl"
)

func TestP7Known(t *testing.T) {
	two, half, done := zeros(64), zeros(32)+exampleA, exampleB+exampleA
	thrice := write(0, full("1")) + write(0, full("2")) + write(0, full("3"))
	mixed := write(0, full("1")) + barrier + write(1, full("2")) + write(0, full("3")) + barrier + write(1, full("4"))
	for _, c := range []struct {
		plan string
		n    int
		keep string
		want string
	}{
		{example5, 0, "", two}, {example5, 0, "1", two}, {example5, 1, "", two}, {example5, 1, "0", two}, {example5, 1, "1", half},
		{example5, 2, "", half}, {example5, 2, "0", half}, {example5, 3, "", half}, {example5, 3, "0", half}, {example5, 3, "01", half}, {example5, 3, "1", done},
		{thrice, 3, "", two}, {thrice, 3, "1", full("1") + zeros(32)}, {thrice, 3, "01", full("2") + zeros(32)}, {thrice, 3, "11", full("2") + zeros(32)}, {thrice, 3, "101", full("3") + zeros(32)}, {thrice, 2, "001", two}, {thrice, 2, "011", full("2") + zeros(32)},
		{thrice + barrier, 4, "", full("3") + zeros(32)}, {thrice + barrier, 3, "1", full("1") + zeros(32)},
		{mixed, 1, "0", two}, {mixed, 2, "0", full("1") + zeros(32)}, {mixed, 4, "", full("1") + zeros(32)}, {mixed, 4, "1", full("1") + full("2")}, {mixed, 4, "01", full("3") + zeros(32)}, {mixed, 4, "11", full("3") + full("2")}, {mixed, 5, "", full("3") + full("2")}, {mixed, 6, "", full("3") + full("2")}, {mixed, 6, "0001", full("3") + full("2")}, {mixed, 6, "1", full("3") + full("4")},
		{"", 0, "", two}, {"", 0, strings.Repeat("1", 100), two}, {barrier + barrier, 2, "1", two},
	} {
		d, e := pawl.Crash(two, c.plan, c.n, c.keep)
		wantText(t, fmt.Sprintf("P7: Crash(.., %x, %d, %q)", c.plan, c.n, c.keep), d, e, c.want, api.OK)
	}
}

func TestP7KeptByTheByteOneAlone(t *testing.T) {
	for c := range 256 {
		d, e := pawl.Crash(zeros(64), write(1, exampleA)+write(0, exampleB), 2, string([]byte{byte(c), '1'}))
		want := exampleB + zeros(32)
		if c == '1' {
			want = exampleB + exampleA
		}
		wantText(t, fmt.Sprintf("P7: Crash with the byte %d in keep", c), d, e, want, api.OK)
	}
}

func TestP7AsTheModel(t *testing.T) {
	from := rand.New(rand.NewSource(7))
	for round := range 4000 {
		sectors := []int{1, 2, 39, 40, 1 + from.Intn(40)}[round%5]
		many := []int{0, 1, 3, 99, 100, from.Intn(101)}[from.Intn(6)]
		disk, plan := someDisk(sectors), somePlan(from, many, sectors)
		records, _ := modelRecords(plan, sectors)
		keep := make([]byte, []int{0, 1, 99, 100, from.Intn(101)}[from.Intn(5)])
		for i := range keep {
			keep[i] = "0111\x01\x002 "[from.Intn(8)]
		}
		for _, n := range []int{0, many, from.Intn(many + 1), from.Intn(many + 1)} {
			d, e := pawl.Crash(disk, plan, n, string(keep))
			wantText(t, fmt.Sprintf("P7: Crash behind %d of %d records, %q kept", n, many, keep), d, e, modelCrash(disk, records, n, string(keep)), api.OK)
		}
	}
}

func TestP7AHundredLooseWrites(t *testing.T) {
	plan := ""
	for i := range 100 {
		plan += write(i%40, full(string([]byte{byte(i + 1)})))
	}
	records, _ := modelRecords(plan, 40)
	for i := range 100 {
		keep := poke(strings.Repeat("0", 100), i, "1")
		d, e := pawl.Crash(zeros(1280), plan, 100, keep)
		wantText(t, fmt.Sprintf("P7: Crash with loose write %d kept", i), d, e, modelCrash(zeros(1280), records, 100, keep), api.OK)
	}
}

func TestP7Errors(t *testing.T) {
	long := strings.Repeat("1", 101)
	for _, disk := range noDisks {
		for _, plan := range []string{"", write(0, exampleA), "x", strings.Repeat(barrier, 101)} {
			for _, n := range []int{-1, 0, 1} {
				d, e := pawl.Crash(disk, plan, n, long)
				wantText(t, fmt.Sprintf("P7: Crash on %d bytes", len(disk)), d, e, "", api.ErrDisk)
			}
		}
	}
	for _, plan := range noPlans() {
		for _, n := range []int{-1, 0, 1, 100, 101} {
			for _, keep := range []string{"", "1", long} {
				d, e := pawl.Crash(someDisk(3), plan, n, keep)
				wantText(t, fmt.Sprintf("P7: Crash of %.80x (%d bytes)", plan, len(plan)), d, e, "", api.ErrPlan)
			}
		}
	}
	for _, c := range []struct {
		plan    string
		records int
	}{{"", 0}, {barrier, 1}, {write(2, exampleA), 1}, {example5, 3}, {strings.Repeat(barrier, 100), 100}, {strings.Repeat(write(1, exampleA), 100), 100}} {
		for _, n := range []int{-1, -2, -100, c.records + 1, c.records + 2, 256 + c.records, 1<<32 + c.records, -1<<32 + c.records, math.MaxInt, math.MinInt} {
			for _, keep := range []string{"", "1", long} {
				d, e := pawl.Crash(someDisk(3), c.plan, n, keep)
				wantText(t, fmt.Sprintf("P7: Crash behind %d of %d records", n, c.records), d, e, "", api.ErrNumber)
			}
		}
		for _, length := range []int{101, 102, 200, 255, 256, 257, 356, 65536} {
			for _, n := range []int{0, c.records} {
				d, e := pawl.Crash(someDisk(3), c.plan, n, strings.Repeat("1", length))
				wantText(t, fmt.Sprintf("P7: Crash with %d bytes kept", length), d, e, "", api.ErrLong)
			}
		}
		for _, length := range []int{99, 100} {
			if _, e := pawl.Crash(someDisk(3), c.plan, c.records, strings.Repeat("1", length)); e != api.OK {
				t.Errorf("P7: Crash with %d bytes kept: %d", length, e)
			}
		}
	}
}
