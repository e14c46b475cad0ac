package quad

import (
	"math"
	"testing"
)

func TestNumber(t *testing.T) {
	for _, c := range []struct {
		text string
		from int
		want uint32
	}{
		{"\x01\x02\x03\x04", 0, 0x01020304}, {"\xff\xfe\x80\x00", 0, 0xfffe8000}, {"ab\x01\x02\x03\x04cd", 2, 0x01020304},
		{"", 0, 0}, {"\x01", 0, 0x01000000}, {"\x01\x02\x03", 0, 0x01020300}, {"\x01\x02\x03\x04", 3, 0x04000000}, {"\x01\x02\x03\x04", 4, 0},
		{"\x01\x02\x03\x04", -2, 0x0102}, {"\x01", -1, 0x010000}, {"\x01", math.MaxInt, 0}, {"\x01", math.MinInt, 0},
	} {
		if n := Number(c.text, c.from); n != c.want {
			t.Errorf("Number(%x, %d) = %x, want %x", c.text, c.from, n, c.want)
		}
	}
}

func TestText(t *testing.T) {
	for _, c := range []struct {
		n    uint32
		want string
	}{
		{0, "\x00\x00\x00\x00"}, {1, "\x00\x00\x00\x01"}, {0x01020304, "\x01\x02\x03\x04"}, {0x80ff007f, "\x80\xff\x00\x7f"}, {math.MaxUint32, "\xff\xff\xff\xff"},
	} {
		text := Text(c.n)
		if text != c.want || Number(text, 0) != c.n {
			t.Errorf("Text(%x) = %x, want %x", c.n, text, c.want)
		}
	}
}
