package talk

import (
	"reflect"
	"testing"

	"pawl/api"
	"pawl/boxes"
	"pawl/keys"
	"pawl/letters"
)

// someBox has room behind its keys, so that an append would write on what others see.
func someBox() boxes.Box {
	kept := make([]boxes.Kept, 2, 10)
	kept[0] = boxes.Kept{Step: 2, Count: 49, Key: "key-key1"}
	kept[1] = boxes.Kept{Step: 4, Count: 8, Key: "key-key2"}
	return boxes.Box{Step: 5, Sent: 7, Got: 9, Prev: 50, Skip: 3, Cap: 3, Root: "rootroot", Out: "sendsend", In: "takerecv", Secret: 12, Peer: 49, Kept: kept}
}

func letter(t *testing.T, head string, key string) letters.Letter {
	t.Helper()
	l, right := letters.Read(head + keys.Seal(key, head, "text"))
	if !right {
		t.Fatalf("no letter: %x", head)
	}
	return l
}

func TestTheBoxHandedInStays(t *testing.T) {
	second, third := keys.Mix("takerecv", "n"), keys.Mix(keys.Mix("takerecv", "n"), "n")
	for _, l := range []letters.Letter{
		letter(t, letters.Head(2, 49, 0, 5), "key-key1"),
		letter(t, letters.Head(4, 8, 0, 5), "key-key2"),
		letter(t, letters.Head(4, 9, 0, 5), keys.Mix("takerecv", "m")),
		letter(t, letters.Head(4, 10, 0, 5), keys.Mix(second, "m")),
		letter(t, letters.Head(4, 11, 0, 5), keys.Mix(third, "m")),
	} {
		b := someBox()
		text, _, e := Receive(b, l, 3)
		if text != "text" || e != api.OK {
			t.Errorf("Receive of step %d, count %d: %q, %d", l.Step, l.Count, text, e)
		}
		if !reflect.DeepEqual(b, someBox()) || b.Kept[:3][2] != (boxes.Kept{}) {
			t.Errorf("Receive of step %d, count %d has changed the box: %+v", l.Step, l.Count, b)
		}
	}
}

func TestSend(t *testing.T) {
	text, after := Send(someBox(), "text")
	head := letters.Head(5, 7, 50, 956385319)
	if text != head+keys.Seal(keys.Mix("sendsend", "m"), head, "text") {
		t.Errorf("Send = %x", text)
	}
	want := someBox()
	want.Sent = 8
	want.Out = keys.Mix("sendsend", "n")
	if !reflect.DeepEqual(after, want) {
		t.Errorf("the box behind Send = %+v, want %+v", after, want)
	}
}

func TestGreatest(t *testing.T) {
	kept := someBox().Kept
	for most := -1; most <= 3; most++ {
		left := greatest(kept, most)
		if many := max(0, min(2, most)); len(left) != many || many > 0 && left[many-1] != kept[1] {
			t.Errorf("greatest(2 keys, %d) = %+v", most, left)
		}
	}
}
