package promises

import (
	"fmt"
	"math/rand"
	"strings"
	"testing"

	"pawl/api"
	"pawl/pawl"
)

const (
	barrier  = "\xff"
	exampleA = "aaaaaaaaaaaaaaaaaaaaaaaaaaaaaaaa"
	exampleB = "bbbbbbbbbbbbbbbbbbbbbbbbbbbbbbbb"
	// example5 is the plan of example 5.
	example5 = "\x01" + exampleA + barrier + "\x00" + exampleB
)

func write(sector int, bytes string) string { return string([]byte{byte(sector)}) + bytes }

var noDisks = []string{"", "x", zeros(31), zeros(33), zeros(63), zeros(65), zeros(1279), zeros(1281), zeros(1312), zeros(1280 * 2), zeros(65536), zeros(65536 + 32), someText(31), someText(1312), second()[1:], second() + "\x00", second() + zeros(1152)}

// noPlans are no plans for a disk of three sectors.
func noPlans() []string {
	w := write(2, someText(32))
	plans := []string{
		write(3, full("a")), write(4, full("a")), write(39, full("a")), write(40, full("a")), write(127, full("a")), write(128, full("a")), write(254, full("a")),
		w + write(3, full("a")), write(3, full("a")) + w, barrier + write(3, full("a")) + barrier,
		"\xfe", "\x03", barrier + "\x00", w + "\x00", w + barrier + "\x02" + full("a")[1:],
		strings.Repeat(barrier, 101), strings.Repeat(barrier, 102), strings.Repeat(barrier, 256), strings.Repeat(barrier, 356), strings.Repeat(barrier, 3300), strings.Repeat(barrier, 3301), strings.Repeat(barrier, 65536),
		strings.Repeat(w, 101), strings.Repeat(w, 102), strings.Repeat(w, 256), strings.Repeat(w, 2000), strings.Repeat(w, 100) + barrier, barrier + strings.Repeat(w, 100), strings.Repeat(w, 99) + barrier + barrier, strings.Repeat(w+barrier, 50) + w, strings.Repeat(barrier+w, 50) + barrier,
		strings.Repeat(w, 100) + w[:32], strings.Repeat(w, 99) + w[:32], strings.Repeat(barrier, 100) + "\x00",
	}
	for size := 1; size < len(w); size++ {
		plans = append(plans, w[:size], w+barrier+w[:size])
	}
	return plans
}

// somePlan is a plan of so many records for a disk with so many sectors.
func somePlan(from *rand.Rand, records int, sectors int) string {
	plan := ""
	often := 1 + from.Intn(12)
	for range records {
		if from.Intn(often) == 0 {
			plan += barrier
		} else {
			plan += write(from.Intn(sectors), someText(32 + from.Intn(500))[:32])
		}
	}
	return plan
}

func TestP6Known(t *testing.T) {
	three := someDisk(3)
	for _, c := range []struct{ disk, plan, want string }{
		{zeros(64), example5, exampleB + exampleA},
		{zeros(64), "", zeros(64)},
		{three, "", three},
		{three, barrier, three},
		{three, strings.Repeat(barrier, 100), three},
		{three, write(0, exampleA), exampleA + three[32:]},
		{three, write(1, exampleA), three[:32] + exampleA + three[64:]},
		{three, write(2, exampleA), three[:64] + exampleA},
		{three, write(2, full("\xff")), three[:64] + full("\xff")},
		{three, write(2, exampleA) + write(2, exampleB), three[:64] + exampleB},
		{three, write(2, exampleB) + barrier + write(2, exampleA) + barrier, three[:64] + exampleA},
		{three, write(0, exampleA) + write(2, exampleB), exampleA + three[32:64] + exampleB},
		{three, strings.Repeat(write(1, exampleB), 99) + write(1, exampleA), three[:32] + exampleA + three[64:]},
		{full("x"), write(0, exampleA), exampleA},
		{zeros(1280), write(39, exampleA), zeros(1248) + exampleA},
		{zeros(1248), write(38, exampleA), zeros(1216) + exampleA},
	} {
		d, e := pawl.Apply(c.disk, c.plan)
		wantText(t, fmt.Sprintf("P6: Apply(%.40x, %.80x)", c.disk, c.plan), d, e, c.want, api.OK)
	}
}

func TestP6AsTheModel(t *testing.T) {
	from := rand.New(rand.NewSource(6))
	for round := range 2000 {
		sectors := []int{1, 2, 39, 40, 1 + from.Intn(40)}[round%5]
		many := []int{0, 1, 99, 100, from.Intn(101)}[from.Intn(5)]
		disk, plan := someDisk(sectors), somePlan(from, many, sectors)
		records, _ := modelRecords(plan, sectors)
		want := modelCrash(disk, append(records, barrier), many+1, "")
		d, e := pawl.Apply(disk, plan)
		wantText(t, fmt.Sprintf("P6: Apply of %d records on %d sectors", many, sectors), d, e, want, api.OK)
	}
}

func TestP6SectorsThatTheDiskHas(t *testing.T) {
	for sectors := 1; sectors <= 40; sectors++ {
		disk := someDisk(sectors)
		for number := range 255 {
			d, e := pawl.Apply(disk, write(number, exampleA))
			what := fmt.Sprintf("P6: Apply of a write on sector %d of %d", number, sectors)
			if number < sectors {
				wantText(t, what, d, e, poke(disk, 32*number, exampleA), api.OK)
			} else {
				wantText(t, what, d, e, "", api.ErrPlan)
			}
		}
	}
}

func TestP6Errors(t *testing.T) {
	for _, disk := range noDisks {
		for _, plan := range []string{"", barrier, write(0, exampleA), "x", strings.Repeat(barrier, 101)} {
			d, e := pawl.Apply(disk, plan)
			wantText(t, fmt.Sprintf("P6: Apply on %d bytes", len(disk)), d, e, "", api.ErrDisk)
		}
	}
	for _, plan := range noPlans() {
		for _, disk := range []string{zeros(96), someDisk(3)} {
			d, e := pawl.Apply(disk, plan)
			wantText(t, fmt.Sprintf("P6: Apply of %.80x (%d bytes)", plan, len(plan)), d, e, "", api.ErrPlan)
		}
	}
}

// Whatever the length of a row of barriers behind writes, it is a plan just up to 100 records.
func TestP6NumbersOfRecords(t *testing.T) {
	disk := someDisk(3)
	for writes := range 103 {
		for barriers := range 103 {
			d, e := pawl.Apply(disk, strings.Repeat(write(1, exampleB), writes)+strings.Repeat(barrier, barriers))
			what := fmt.Sprintf("P6: Apply of %d writes and %d barriers", writes, barriers)
			switch {
			case writes+barriers > 100:
				wantText(t, what, d, e, "", api.ErrPlan)
			case writes == 0:
				wantText(t, what, d, e, disk, api.OK)
			default:
				wantText(t, what, d, e, poke(disk, 32, exampleB), api.OK)
			}
		}
	}
}
