package numbers

import (
	"math"
	"testing"
)

func TestBounds(t *testing.T) {
	for _, c := range []struct {
		n              int
		secret, public bool
	}{
		{math.MinInt, false, false}, {-1, false, false}, {0, false, false}, {1, true, true},
		{2147483645, true, true}, {2147483646, false, true}, {2147483647, false, false}, {math.MaxInt, false, false},
	} {
		if IsSecret(c.n) != c.secret || IsPublic(c.n) != c.public {
			t.Errorf("%d: secret %v, public %v", c.n, IsSecret(c.n), IsPublic(c.n))
		}
	}
}

func TestPowerStepByStep(t *testing.T) {
	for _, base := range []int{1, 2, 7, 65536, 1234567890, 2147483646} {
		want := int64(1)
		for exponent := range 300 {
			if got := power(base, exponent); int64(got) != want {
				t.Fatalf("%d to the power %d = %d, want %d", base, exponent, got, want)
			}
			want = want * int64(base) % 2147483647
		}
	}
}

func TestPublicIsSharedWithBase(t *testing.T) {
	for _, x := range []int{1, 2, 65537, 2147483645} {
		if p := Public(x); p != Shared(x, 7) || !IsPublic(p) {
			t.Errorf("Public(%d) = %d", x, p)
		}
	}
}
