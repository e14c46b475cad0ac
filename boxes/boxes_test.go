package boxes

import (
	"reflect"
	"strings"
	"testing"

	"pawl/api"
	"pawl/keys"
	"pawl/numbers"
)

func someBox() Box {
	return Box{Step: 5, Sent: 7, Got: 9, Prev: 50, Skip: 1, Cap: 2, Root: "rootroot", Out: "sendsend", In: "takerecv", Secret: 12, Peer: 49,
		Kept: []Kept{{Step: 2, Count: 49, Key: "key-key1"}, {Step: 4, Count: 8, Key: "key-key2"}}}
}

func TestNeed(t *testing.T) {
	for _, c := range []struct{ most, side, need int }{{0, 2, 5}, {2, 2, 5}, {3, 3, 7}, {5, 3, 7}, {6, 4, 9}, {30, 11, 23}} {
		if side, need := SideSize(c.most), Need(c.most); side != c.side || need != c.need {
			t.Errorf("cap %d: a side of %d sectors, %d in all, want %d and %d", c.most, side, need, c.side, c.need)
		}
	}
}

func TestSideAndRead(t *testing.T) {
	b := someBox()
	side := Side(b)
	want := "\x00\x05\x07\x09\x32\x01\x02\x02" + "rootroot" + "sendsend" + "takerecv" + "\x00\x00\x00\x0c" + "\x00\x00\x00\x31" + "\x02\x31key-key1" + "\x04\x08key-key2" + "\x00\x00\x00\x00"
	if side != want {
		t.Errorf("Side = %q, want %q", side, want)
	}
	if read, right := Read(side, 2); !right || !reflect.DeepEqual(read, b) {
		t.Errorf("Read = %+v, %t", read, right)
	}
}

func TestReadOfWrongSides(t *testing.T) {
	side := Side(someBox())
	for _, c := range []struct {
		side string
		most int
	}{
		{"", 2}, {side[:63], 2}, {side + "\x00", 2}, {side[:32], 2}, {side, 1}, {side, 3}, {side, -4}, {side + strings.Repeat("\x00", 32), 3},
		{side[:63] + "\x01", 2}, {side[:7] + "\x03" + side[8:], 2}, {side[:7] + "\x01" + side[8:], 2},
	} {
		if _, right := Read(c.side, c.most); right {
			t.Errorf("Read(%q, %d) is right", c.side, c.most)
		}
	}
}

func TestNew(t *testing.T) {
	want := Box{Role: 1, Skip: 3, Cap: 4, Root: "12345678", Out: NoKey, In: NoKey, Secret: 9}
	if b := New(api.Config{Role: 1, Skip: 3, Cap: 4}, "12345678", 9); !reflect.DeepEqual(b, want) {
		t.Errorf("New of role 1 = %+v", b)
	}
	out, root := keys.Turn("12345678", numbers.Shared(9, 49))
	want = Box{Step: 1, Skip: 3, Cap: 4, Root: root, Out: out, In: NoKey, Secret: 9, Peer: 49}
	if b := New(api.Config{Skip: 3, Cap: 4, Peer: 49}, "12345678", 9); !reflect.DeepEqual(b, want) {
		t.Errorf("New of role 0 = %+v", b)
	}
}
