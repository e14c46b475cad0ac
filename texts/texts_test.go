package texts

import (
	"math"
	"testing"
)

func TestByte(t *testing.T) {
	for _, c := range []struct{ at, want int }{{0, 'a'}, {2, 255}, {3, 0}, {-1, 0}, {math.MaxInt, 0}, {math.MinInt, 0}} {
		if b := Byte("ab\xff", c.at); b != c.want {
			t.Errorf("Byte(.., %d) = %d, want %d", c.at, b, c.want)
		}
	}
}

func TestPart(t *testing.T) {
	for _, c := range []struct {
		from, size int
		want       string
	}{
		{0, 4, "abcd"}, {1, 2, "bc"}, {3, 1, "d"}, {0, 0, ""}, {4, 0, ""}, {0, 5, ""}, {3, 2, ""}, {4, 1, ""}, {5, 0, ""}, {-1, 2, ""}, {1, -1, ""},
		{math.MaxInt, 1, ""}, {1, math.MaxInt, ""}, {math.MinInt, 1, ""}, {1, math.MinInt, ""}, {math.MaxInt, math.MaxInt, ""},
	} {
		if p := Part("abcd", c.from, c.size); p != c.want {
			t.Errorf("Part(.., %d, %d) = %q, want %q", c.from, c.size, p, c.want)
		}
	}
}

func TestNoughts(t *testing.T) {
	for _, c := range []struct {
		size int
		want string
	}{{0, ""}, {1, "\x00"}, {3, "\x00\x00\x00"}, {-1, ""}, {math.MinInt, ""}} {
		if n := Noughts(c.size); n != c.want {
			t.Errorf("Noughts(%d) = %q, want %q", c.size, n, c.want)
		}
	}
}

func TestIsNoughts(t *testing.T) {
	for _, c := range []struct {
		text string
		want bool
	}{{"", true}, {"\x00", true}, {"\x00\x00", true}, {"\x00\x01", false}, {"\x80\x00", false}, {"0", false}} {
		if is := IsNoughts(c.text); is != c.want {
			t.Errorf("IsNoughts(%q) = %t", c.text, is)
		}
	}
}
