package promises

import (
	"fmt"
	"strings"
	"testing"

	"pawl/api"
	"pawl/pawl"
)

func TestP3MixKnown(t *testing.T) {
	rising, falling := make([]byte, 200), make([]byte, 200)
	for i := range rising {
		rising[i], falling[i] = byte(i), byte(255-i)
	}
	for _, c := range []struct{ key, text, want string }{
		{noughts, "", "bc76eb710a6b1e22"},
		{noughts, "a", "2cd9d233425225eb"},
		{plain, "", "cbd6833366a27da3"},
		{plain, "a", "3e3c9e76febfa9f6"},
		{plain, "ab", "084638973591d17d"},
		{plain, "abc", "256148c4ce347803"},
		{plain, "abcd", "90a9e96241213988"},
		{plain, "abcde", "449e07115c459162"},
		{ones, "", "ffede59c181ead01"},
		{ones, "\xff", "5e56752a7abe1ad7"},
		{ones, "\xff\xff\xff\xff\xff\xff\xff", "5b5049cfaf1cbc74"},
		{noughts, "\x00", "c933179531354c2d"},
		{noughts, "\x00\x00\x00\x00", "388b54ca685848df"},
		{noughts, "\x00\x00\x00\x00\x00", "5c3b8d2906e35cf7"},
		{ones, string(rising[:199]), "119da733a6d3b760"},
		{ones, string(rising), "fd39e0a803401ee9"},
		{plain, string(falling), "acb9c38d384dc39b"},
		{"\x80\x00\x00\x00\x00\x00\x00\x80", "m", "794053a95f8217ce"},
	} {
		k, e := pawl.Mix(c.key, c.text)
		wantText(t, fmt.Sprintf("P3: Mix(%x, %.40x)", c.key, c.text), k, e, unhex(t, c.want), api.OK)
	}
}

func TestP3MixOfEveryLength(t *testing.T) {
	for _, key := range someKeys {
		for length := 0; length <= 200; length++ {
			for _, text := range []string{someText(length), strings.Repeat("\x00", length), strings.Repeat("\xff", length)} {
				k, e := pawl.Mix(key, text)
				wantText(t, fmt.Sprintf("P3: Mix(%x, %.40x) of %d bytes", key, text, length), k, e, modelMix(key, text), api.OK)
			}
		}
	}
}

func TestP3MixErrors(t *testing.T) {
	for _, key := range wrongKeys {
		for _, text := range []string{"", "a", strings.Repeat("x", 200), strings.Repeat("x", 201), strings.Repeat("x", 65536)} {
			k, e := pawl.Mix(key, text)
			wantText(t, fmt.Sprintf("P3: Mix of a key of %d bytes and a text of %d", len(key), len(text)), k, e, "", api.ErrKey)
		}
	}
	for _, length := range []int{201, 202, 204, 255, 256, 257, 456, 65536, 65736} {
		k, e := pawl.Mix(plain, strings.Repeat("x", length))
		wantText(t, fmt.Sprintf("P3: Mix of a text of %d bytes", length), k, e, "", api.ErrLong)
	}
}
