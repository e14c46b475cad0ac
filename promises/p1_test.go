package promises

import (
	"math/rand"
	"strings"
	"testing"
	"time"

	"pawl/api"
	"pawl/pawl"
)

func TestP1NothingBesideAnError(t *testing.T) {
	from := rand.New(rand.NewSource(1))
	for range 5000 {
		in := wildInputs(from)
		for _, c := range calls {
			got := c.ask(in)
			if got.e < api.OK || got.e > api.ErrSkip {
				t.Fatalf("P1: %s answers the error %d", c.name, got.e)
			}
			if got.e != api.OK && got != (answer{e: got.e}) {
				t.Fatalf("P1: %s answers %+v beside an error", c.name, got)
			}
		}
	}
}

// A call that reads such texts through does not come to the end of these rounds in time.
func TestP1LongTextsByTheirLength(t *testing.T) {
	huge := strings.Repeat("x", 1<<26)
	late := time.Now().Add(10 * time.Second)
	for round := range 5000 {
		if time.Now().After(late) {
			t.Fatalf("P1: only %d rounds with long texts in ten seconds", round)
		}
		wantLong(t, huge)
		if t.Failed() {
			return
		}
	}
}

func wantLong(t *testing.T, huge string) {
	t.Helper()
	text, e := pawl.Mix(plain, huge)
	wantText(t, "P1: Mix of a long text", text, e, "", api.ErrLong)
	text, e = pawl.Mix(huge, huge)
	wantText(t, "P1: Mix of a long key and text", text, e, "", api.ErrKey)
	text, e = pawl.Seal(plain, head, huge)
	wantText(t, "P1: Seal of a long text", text, e, "", api.ErrLong)
	text, e = pawl.Seal(plain, huge, huge)
	wantText(t, "P1: Seal of a long head and text", text, e, "", api.ErrFrame)
	text, e = pawl.Seal(huge, huge, huge)
	wantText(t, "P1: Seal of a long key, head and text", text, e, "", api.ErrKey)
	text, e = pawl.Unseal(plain, head, huge)
	wantText(t, "P1: Unseal of a long text", text, e, "", api.ErrLong)
	text, e = pawl.Unseal(plain, huge, huge)
	wantText(t, "P1: Unseal of a long head and text", text, e, "", api.ErrFrame)
	text, e = pawl.Unseal(huge, huge, huge)
	wantText(t, "P1: Unseal of a long key, head and text", text, e, "", api.ErrKey)
}

func TestP1TheFirstErrorNamed(t *testing.T) {
	long, short := strings.Repeat("x", 201), "1234567"
	text, e := pawl.Mix(short, long)
	wantText(t, "P1: Mix, ErrKey and ErrLong", text, e, "", api.ErrKey)
	text, e = pawl.Seal(short, short, long)
	wantText(t, "P1: Seal, ErrKey and ErrLong", text, e, "", api.ErrKey)
	text, e = pawl.Seal(short, plain, "")
	wantText(t, "P1: Seal, ErrKey and ErrFrame", text, e, "", api.ErrKey)
	text, e = pawl.Seal(plain, plain, long)
	wantText(t, "P1: Seal, ErrFrame and ErrLong", text, e, "", api.ErrFrame)
	text, e = pawl.Unseal(short, head, short)
	wantText(t, "P1: Unseal, ErrKey and ErrFrame", text, e, "", api.ErrKey)
	text, e = pawl.Unseal(short, head, long)
	wantText(t, "P1: Unseal, ErrKey and ErrLong", text, e, "", api.ErrKey)
	text, e = pawl.Unseal(short, head, ones)
	wantText(t, "P1: Unseal, ErrKey and ErrTag", text, e, "", api.ErrKey)
	text, e = pawl.Unseal(plain, plain, long)
	wantText(t, "P1: Unseal, ErrFrame and ErrLong", text, e, "", api.ErrFrame)
	text, e = pawl.Unseal(plain, plain, ones)
	wantText(t, "P1: Unseal, ErrFrame and ErrTag", text, e, "", api.ErrFrame)
	text, e = pawl.Unseal(plain, head, long)
	wantText(t, "P1: Unseal, ErrLong and ErrTag", text, e, "", api.ErrLong)
}
