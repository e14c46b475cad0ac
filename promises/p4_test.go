package promises

import (
	"fmt"
	"math"
	"math/rand"
	"testing"

	"pawl/api"
	"pawl/pawl"
)

var secretNumbers = []int{1, 2, 3, 4, 10, 11, 12, 255, 256, 65535, 65536, 65537, 46341, 1<<30 - 1, 1 << 30, 1<<30 + 1, 2147483643, 2147483644, 2147483645}

var publicNumbers = []int{1, 2, 3, 5, 7, 255, 256, 46340, 46341, 65535, 65536, 1<<30 - 1, 1 << 30, 1234567890, 2147483644, 2147483645, 2147483646}

// neitherNumbers are no secret and no public ones; their lower 32 bits would often be such.
var neitherNumbers = []int{0, -1, -2, -7, -2147483646, -2147483647, -2147483648, 2147483647, 2147483648, 2147483649, 1<<32 - 1, 1 << 32, 1<<32 + 1, 1<<32 + 5, -1<<32 + 5, 1 << 62, 1<<62 + 3, math.MaxInt64, math.MinInt64, math.MinInt64 + 1}

func TestP4PublicKnown(t *testing.T) {
	for _, c := range []struct{ x, want int }{
		{1, 7}, {2, 49}, {10, 282475249}, {11, 1977326743}, {12, 956385319}, {65537, 828208066}, {1073741824, 2147483640}, {2147483644, 1796874072}, {2147483645, 1840700269},
	} {
		y, e := pawl.Public(c.x)
		wantNumber(t, fmt.Sprintf("P4: Public(%d)", c.x), y, e, c.want, api.OK)
	}
}

func TestP4SharedKnown(t *testing.T) {
	for _, c := range []struct{ x, y, want int }{
		{2, 5, 25}, {1, 5, 5}, {3, 2147483646, 2147483646}, {2, 2147483646, 1}, {1, 2147483646, 2147483646}, {2147483645, 1, 1}, {31, 2, 1}, {65537, 1234567890, 353755876}, {2147483645, 2147483645, 1073741823}, {1073741824, 3, 2147483644}, {2147483644, 1999999999, 1602630184}, {1073741824, 2147483646, 1},
	} {
		d, e := pawl.Shared(c.x, c.y)
		wantNumber(t, fmt.Sprintf("P4: Shared(%d, %d)", c.x, c.y), d, e, c.want, api.OK)
	}
}

func TestP4AtTheBounds(t *testing.T) {
	for _, x := range secretNumbers {
		y, e := pawl.Public(x)
		wantNumber(t, fmt.Sprintf("P4: Public(%d)", x), y, e, modelPower(7, x), api.OK)
		for _, y := range publicNumbers {
			d, e := pawl.Shared(x, y)
			wantNumber(t, fmt.Sprintf("P4: Shared(%d, %d)", x, y), d, e, modelPower(y, x), api.OK)
		}
	}
}

func TestP4Between(t *testing.T) {
	numbers := rand.New(rand.NewSource(4))
	for range 3000 {
		x, y := 1+numbers.Intn(2147483645), 1+numbers.Intn(2147483646)
		p, e := pawl.Public(x)
		wantNumber(t, fmt.Sprintf("P4: Public(%d)", x), p, e, modelPower(7, x), api.OK)
		d, e := pawl.Shared(x, y)
		wantNumber(t, fmt.Sprintf("P4: Shared(%d, %d)", x, y), d, e, modelPower(y, x), api.OK)
	}
}

func TestP4BothShareTheSame(t *testing.T) {
	for _, x := range secretNumbers {
		for _, y := range secretNumbers {
			p, _ := pawl.Public(x)
			q, _ := pawl.Public(y)
			c, e := pawl.Shared(x, q)
			d, f := pawl.Shared(y, p)
			if c != d || c < 1 || c > 2147483646 || e != api.OK || f != api.OK {
				t.Errorf("P4: %d and %d share %d and %d (%d, %d)", x, y, c, d, e, f)
			}
		}
	}
}

func TestP4Errors(t *testing.T) {
	// P - 1 is a public number but no secret one.
	for _, x := range append([]int{2147483646}, neitherNumbers...) {
		y, e := pawl.Public(x)
		wantNumber(t, fmt.Sprintf("P4: Public(%d)", x), y, e, 0, api.ErrNumber)
		for _, y := range append([]int{1, 5, 2147483646}, neitherNumbers...) {
			d, e := pawl.Shared(x, y)
			wantNumber(t, fmt.Sprintf("P4: Shared(%d, %d)", x, y), d, e, 0, api.ErrNumber)
		}
	}
	for _, x := range secretNumbers {
		for _, y := range neitherNumbers {
			d, e := pawl.Shared(x, y)
			wantNumber(t, fmt.Sprintf("P4: Shared(%d, %d)", x, y), d, e, 0, api.ErrNumber)
		}
	}
}
