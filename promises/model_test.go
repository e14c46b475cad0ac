// Package promises: tests of what DOC.md promises, a file for each promise, by the exported calls alone.
package promises

import (
	"encoding/binary"
	"encoding/hex"
	"math/big"
	"math/bits"
	"strings"
	"testing"

	"pawl/api"
)

const (
	noughts = "\x00\x00\x00\x00\x00\x00\x00\x00"
	ones    = "\xff\xff\xff\xff\xff\xff\xff\xff"
	plain   = "12345678"
	head    = "abcdefg"
)

var someKeys = []string{noughts, ones, plain, "\x80\x00\x00\x00\x00\x00\x00\x80", "\x00\x00\x00\x01\x00\x00\x00\x00", "\x00\x00\x00\x00\x00\x00\x00\x01", "\xc3\x28\xf0\x90\x00\x7f\x80\xfe"}

// wrongKeys are all that differ from a key in their length alone, far and near.
var wrongKeys = []string{"", "1", "1234", "1234567", "123456789", strings.Repeat("k", 16), strings.Repeat("k", 256+8), strings.Repeat("k", 65536+8)}

// The models below are written from the document's words, with other means than the program's.

func modelStir(a, b uint32) (uint32, uint32) {
	for _, i := range []uint32{1, 2, 3} {
		a += b + i
		b = bits.RotateLeft32(b, 7) ^ a
		a = bits.RotateLeft32(a, 13) ^ b
		b += a
	}
	return a, b
}

func modelMix(key, text string) string {
	a, b := binary.BigEndian.Uint32([]byte(key[:4])), binary.BigEndian.Uint32([]byte(key[4:]))
	filled := []byte(text)
	for len(filled)%4 != 0 {
		filled = append(filled, 0)
	}
	for ; len(filled) > 0; filled = filled[4:] {
		a, b = modelStir(a^binary.BigEndian.Uint32(filled), b)
	}
	a, b = modelStir(modelStir(a, b^uint32(len(text))))
	return string(binary.BigEndian.AppendUint32(binary.BigEndian.AppendUint32(nil, a), b))
}

func modelCover(key, text string) string {
	cover := []byte(text)
	for i := range cover {
		cover[i] ^= modelMix(key, string([]byte{'s', byte(i / 8)}))[i%8]
	}
	return string(cover)
}

func modelSeal(key, head, text string) string {
	cover := modelCover(key, text)
	return cover + modelMix(key, "t"+head+cover)
}

func modelPower(base, exponent int) int {
	b, x, p := big.NewInt(int64(base)), big.NewInt(int64(exponent)), big.NewInt(2147483647)
	return int(b.Exp(b, x, p).Int64())
}

// someText is bytes of every sort, noughts and bytes above 127 among them, and no two lengths begin alike.
func someText(length int) string {
	text := make([]byte, length)
	n := uint32(length) + 1
	for i := range text {
		n = n*1664525 + 1013904223
		text[i] = byte(n >> 24)
	}
	return string(text)
}

func flip(text string, bit int) string {
	b := []byte(text)
	b[bit/8] ^= 1 << (bit % 8)
	return string(b)
}

func unhex(t *testing.T, digits string) string {
	t.Helper()
	b, err := hex.DecodeString(digits)
	if err != nil {
		t.Fatal(err)
	}
	return string(b)
}

func wantText(t *testing.T, what string, got string, e api.Errno, want string, wantE api.Errno) {
	t.Helper()
	if got != want || e != wantE {
		t.Errorf("%s = %.60x, %d, want %.60x, %d", what, got, e, want, wantE)
	}
}

func wantNumber(t *testing.T, what string, got int, e api.Errno, want int, wantE api.Errno) {
	t.Helper()
	if got != want || e != wantE {
		t.Errorf("%s = %d, %d, want %d, %d", what, got, e, want, wantE)
	}
}
