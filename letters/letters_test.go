package letters

import (
	"strings"
	"testing"
)

func TestHeadAndRead(t *testing.T) {
	head := Head(29, 49, 50, 2147483646)
	if head != "\x1d\x31\x32\x7f\xff\xff\xfe" {
		t.Errorf("Head = %x", head)
	}
	for size := 8; size <= 48; size++ {
		sealed := strings.Repeat("s", size)
		want := Letter{Step: 29, Count: 49, Prev: 50, Public: 2147483646, Head: head, Sealed: sealed}
		if l, right := Read(head + sealed); l != want || !right {
			t.Errorf("Read = %+v, %t", l, right)
		}
	}
}

func TestReadOfNoLetters(t *testing.T) {
	sealed := "12345678"
	for _, text := range []string{
		"", "\x01", Head(1, 0, 0, 1), Head(1, 0, 0, 1) + sealed[1:], Head(1, 0, 0, 1) + strings.Repeat("s", 49), strings.Repeat("\x01", 1000),
		Head(0, 0, 0, 1) + sealed, Head(30, 0, 0, 1) + sealed, Head(255, 0, 0, 1) + sealed,
		Head(1, 50, 0, 1) + sealed, Head(1, 255, 0, 1) + sealed, Head(1, 0, 51, 1) + sealed, Head(1, 0, 255, 1) + sealed,
		Head(1, 0, 0, 0) + sealed, Head(1, 0, 0, 2147483647) + sealed, "\x01\x00\x00\x80\x00\x00\x00" + sealed, "\x01\x00\x00\xff\xff\xff\xff" + sealed,
	} {
		if _, right := Read(text); right {
			t.Errorf("Read(%q) is right", text)
		}
	}
}
