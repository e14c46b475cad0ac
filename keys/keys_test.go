package keys

import (
	"strings"
	"testing"
)

func TestStir(t *testing.T) {
	for _, c := range []struct{ a, b, wantA, wantB uint32 }{
		{0x0, 0x0, 0x40c14410, 0x41644a26},
		{0x1, 0x0, 0x71a2ea1f, 0x73047832},
		{0x0, 0x1, 0x7992e69b, 0xb254692e},
		{0xffffffff, 0xffffffff, 0xffffff7f, 0xfffffefe},
		{0x80000000, 0x7fffffff, 0xfbc87fc7, 0x7f8c005},
		{0x12345678, 0x9abcdef0, 0x889f4d80, 0x1b19eb8a},
	} {
		if a, b := stir(c.a, c.b); a != c.wantA || b != c.wantB {
			t.Errorf("stir(%x, %x) = %x, %x, want %x, %x", c.a, c.b, a, b, c.wantA, c.wantB)
		}
	}
}

func TestMixIsAlwaysAKey(t *testing.T) {
	for _, key := range []string{"", "1", "1234567", "12345678", "123456789"} {
		for _, text := range []string{"", "a", "abcd", strings.Repeat("x", 1000)} {
			if k := Mix(key, text); len(k) != 8 {
				t.Errorf("Mix(%q, %.20q) has %d bytes", key, text, len(k))
			}
		}
	}
}

func TestUnsealWhatIsTooShort(t *testing.T) {
	for _, sealed := range []string{"", "1", "1234567"} {
		if text, opens := Unseal("12345678", "abcdefg", sealed); text != "" || opens {
			t.Errorf("Unseal(%q) = %q, %v", sealed, text, opens)
		}
	}
}

func TestUnsealUndoesSeal(t *testing.T) {
	for _, text := range []string{"", "x", "12345678", "123456789", strings.Repeat("\x00", 40)} {
		sealed := Seal("12345678", "abcdefg", text)
		if got, opens := Unseal("12345678", "abcdefg", sealed); got != text || !opens {
			t.Errorf("Unseal of %x = %q, %v, want %q", sealed, got, opens, text)
		}
		if got, opens := Unseal("12345679", "abcdefg", sealed); got != "" || opens {
			t.Errorf("Unseal of %x under another key = %q, %v", sealed, got, opens)
		}
	}
}

func TestTurn(t *testing.T) {
	chain, root := Turn("12345678", 117649)
	if chain != Mix("12345678", "c\x00\x01\xcb\x91") || root != Mix("12345678", "r\x00\x01\xcb\x91") {
		t.Errorf("Turn = %x, %x", chain, root)
	}
}

func TestLink(t *testing.T) {
	key, next := Link("12345678")
	if key != Mix("12345678", "m") || next != Mix("12345678", "n") {
		t.Errorf("Link = %x, %x", key, next)
	}
}
