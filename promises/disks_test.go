package promises

import (
	"encoding/binary"
	"math/rand"
	"slices"
	"strings"
	"testing"

	"pawl/api"
)

// The models below are written from the document's words, with other means than the program's.

func zeros(size int) string { return strings.Repeat("\x00", size) }

func full(c string) string { return strings.Repeat(c, 32) }

// poke lays bytes over those of a text.
func poke(text string, at int, bytes string) string {
	return text[:at] + bytes + text[at+len(bytes):]
}

// someDisk is a disk of bytes of every sort.
func someDisk(sectors int) string { return someText(32 * sectors) }

func modelRecords(plan string, sectors int) ([]string, bool) {
	var records []string
	for rest := plan; rest != ""; {
		size := 33
		if rest[0] == 255 {
			size = 1
		} else if int(rest[0]) >= sectors {
			return nil, false
		}
		if len(rest) < size {
			return nil, false
		}
		records, rest = append(records, rest[:size]), rest[size:]
	}
	return records, len(records) <= 100
}

func modelCrash(disk string, records []string, n int, keep string) string {
	there, loose := []byte(disk), 0
	for i, record := range records[:n] {
		if record == "\xff" {
			continue
		}
		done := slices.Contains(records[i:n], "\xff")
		if !done {
			done = loose < len(keep) && keep[loose] == '1'
			loose++
		}
		if done {
			copy(there[int(record[0])*32:], record[1:])
		}
	}
	return string(there)
}

func modelSide(c int) int { return 32 * ((71 + 10*c) / 32) }

type kept struct {
	step, count int
	key         string
}

type box struct {
	role, step, sent, got, prev, skip, cap int
	root, out, in                          string
	secret, peer                           int
	kept                                   []kept
}

func (b box) side() string {
	s := []byte{byte(b.role), byte(b.step), byte(b.sent), byte(b.got), byte(b.prev), byte(b.skip), byte(b.cap), byte(len(b.kept))}
	s = append(s, b.root+b.out+b.in...)
	s = binary.BigEndian.AppendUint32(s, uint32(b.secret))
	s = binary.BigEndian.AppendUint32(s, uint32(b.peer))
	for _, k := range b.kept {
		s = append(append(s, byte(k.step), byte(k.count)), k.key...)
	}
	return (string(s) + zeros(modelSide(b.cap)))[:modelSide(b.cap)]
}

// disk is the good one with the box, and with some sectors more than the box needs.
func (b box) disk(live int, more int) string {
	sides := []string{zeros(modelSide(b.cap)), zeros(modelSide(b.cap))}
	sides[live] = b.side()
	return "PAWL" + string([]byte{byte(b.cap), byte(live)}) + zeros(26) + sides[0] + sides[1] + zeros(32*more)
}

func (b box) view() api.View {
	v := api.View{Role: b.role, Step: b.step, Sent: b.sent, Got: b.got, Prev: b.prev, Skip: b.skip, Cap: b.cap, Public: modelPower(7, b.secret), Peer: b.peer}
	for _, k := range b.kept {
		v.Kept += string([]byte{byte(k.step), byte(k.count)})
	}
	return v
}

func modelIsLive(s string, c int) bool {
	role, step, sent, got, prev, skip, most, many := int(s[0]), int(s[1]), int(s[2]), int(s[3]), int(s[4]), int(s[5]), int(s[6]), int(s[7])
	secret, peer := binary.BigEndian.Uint32([]byte(s[32:])), binary.BigEndian.Uint32([]byte(s[36:]))
	for _, rule := range []bool{
		role == 0 && step%2 == 1 || role == 1 && step%2 == 0,
		step <= 30, sent <= 50, got <= 50, prev <= 50, skip <= 12,
		most == c, most <= 30, many <= c,
		step != 0 || sent == 0 && s[16:24] == noughts && peer == 0,
		step > 1 || got == 0 && s[24:32] == noughts,
		step > 2 || prev == 0,
		secret >= 1 && secret <= 2147483645,
		step == 0 || peer >= 1 && peer <= 2147483646,
	} {
		if !rule {
			return false
		}
	}
	ofStep, last := map[int]int{}, -1
	for i := range many {
		at, count := int(s[40+10*i]), int(s[41+10*i])
		ofStep[at]++
		place := 256*at + count
		if place <= last || at < 1 || at >= step || (step-at)%2 != 1 || count >= 50 || at == step-1 && count >= got || ofStep[at] > skip {
			return false
		}
		last = place
	}
	return strings.Trim(s[40+10*many:], "\x00") == ""
}

// modelSort tells what Look answers of a disk, OK for a good one, and the disk's repair, if it has one.
func modelSort(disk string) (api.Errno, string) {
	isBlank := func(s string) bool { return strings.Trim(s, "\x00") == "" }
	if isBlank(disk) {
		return api.ErrBlank, disk
	}
	if isBlank(disk[:32]) {
		return api.ErrTorn, zeros(len(disk))
	}
	c, live := int(disk[4]), int(disk[5])
	if disk[:4] != "PAWL" || c > 30 || live > 1 || !isBlank(disk[6:32]) {
		return api.ErrStore, ""
	}
	size := modelSide(c)
	if len(disk) < 32+2*size {
		return api.ErrStore, ""
	}
	from := 32 + live*size
	if !modelIsLive(disk[from:from+size], c) {
		return api.ErrStore, ""
	}
	repair := disk[:32] + zeros(from-32) + disk[from:from+size] + zeros(len(disk)-from-size)
	if repair != disk {
		return api.ErrTorn, repair
	}
	return api.OK, disk
}

// second is the disk of example 6.
func second() string {
	return box{role: 1, skip: 1, root: plain, out: noughts, in: noughts, secret: 2}.disk(0, 0)
}

// third has two keys, of two steps; skip, cap and the numbers stand at their bounds.
func third() box {
	return box{role: 0, step: 5, sent: 7, got: 9, prev: 50, skip: 1, cap: 2, root: "rootroot", out: "sendsend", in: "takerecv", secret: 2147483645, peer: 2147483646,
		kept: []kept{{2, 49, "key-key1"}, {4, 8, "key-key2"}}}
}

// fullBox has as many keys of as many steps as may be.
func fullBox() box {
	b := box{role: 1, step: 30, sent: 50, got: 50, prev: 50, skip: 12, cap: 30, root: ones, out: ones, in: ones, secret: 1, peer: 1}
	for i := range 30 {
		b.kept = append(b.kept, kept{25 + 2*(i/12), 38 + i%12, someText(8)})
	}
	return b
}

// someBox is a box of any step, as the document's table allows it.
func someBox(from *rand.Rand) box {
	edge := func(most int) int { return []int{0, most, from.Intn(most + 1)}[from.Intn(3)] }
	key := func() string { return someText(8 + from.Intn(1000))[:8] }
	b := box{step: edge(30), skip: edge(12), cap: edge(30), root: key(), out: noughts, in: noughts, secret: 1 + from.Intn(2147483645)}
	b.role = 1 - b.step%2
	if b.step > 0 {
		b.sent, b.out, b.peer = edge(50), key(), 1+from.Intn(2147483646)
	}
	if b.step > 1 {
		b.got, b.in = edge(50), key()
	}
	if b.step > 2 {
		b.prev = edge(50)
	}
	for step := 2 - b.step%2; step < b.step; step++ {
		if (b.step-step)%2 == 0 {
			continue
		}
		ofStep := 0
		for count := range 50 {
			if len(b.kept) == b.cap || ofStep == b.skip || step == b.step-1 && count >= b.got {
				break
			}
			if from.Intn(12) == 0 {
				b.kept = append(b.kept, kept{step, count, key()})
				ofStep++
			}
		}
	}
	return b
}

// someDisks are disks of every sort, of all sizes.
func someDisks() []string {
	first := box{role: 0, step: 1, sent: 50, skip: 12, cap: 3, root: plain, out: ones, in: noughts, secret: 12, peer: 49}
	turned := box{role: 1, step: 2, got: 2, skip: 2, cap: 2, root: plain, out: ones, in: ones, secret: 12, peer: 49, kept: []kept{{1, 0, plain}, {1, 1, ones}}}
	disks := []string{zeros(32), zeros(64), zeros(160), zeros(1280)}
	for _, b := range []box{first, turned, third(), fourth(), fullBox()} {
		for live := range 2 {
			good := b.disk(live, live)
			other := 32 + (1-live)*modelSide(b.cap)
			disks = append(disks, good, b.disk(live, 40-len(b.disk(0, 0))/32),
				poke(good, 0, zeros(32)), poke(good, 5, "\x02"), poke(good, 5, string([]byte{byte(1 - live)})),
				poke(good, other, full("x")), poke(good, other, b.side()), good+full("y"), good[:len(good)-32*(live+1)])
		}
	}
	return append(disks, second(), poke(second(), 159, "\x01"), poke(second(), 0, "\x00"), zeros(159)+"\x01", zeros(1279)+"\x01", zeros(32)+full("x"), full("x"), full("PAWL")[:32], someDisk(5), someDisk(40))
}

func everyKeep(loose int) []string {
	var l []string
	for bits := range 1 << loose {
		keep := make([]byte, loose)
		for i := range keep {
			keep[i] = '0' + byte(bits>>i&1)
		}
		l = append(l, string(keep))
	}
	return l
}

// keeps are all ways of keeping so many loose writes, if these are few; else many ways.
func keeps(from *rand.Rand, loose int) []string {
	if loose <= 9 {
		return everyKeep(loose)
	}
	var l []string
	none, all := strings.Repeat("0", loose), strings.Repeat("1", loose)
	l = append(l, none, all)
	for i := range loose {
		l = append(l, poke(none, i, "1"), poke(all, i, "0"), all[:i])
	}
	for range 100 {
		keep := make([]byte, loose)
		for i := range keep {
			keep[i] = '0' + byte(from.Intn(2))
		}
		l = append(l, string(keep))
	}
	return l
}

// crashed tells whatever may be there when the power fails behind the first n records.
func crashed(from *rand.Rand, disk string, records []string, n int) []string {
	loose := 0
	for _, record := range records[:n] {
		loose++
		if record == "\xff" {
			loose = 0
		}
	}
	var l []string
	for _, keep := range keeps(from, loose) {
		l = append(l, modelCrash(disk, records, n, keep))
	}
	return l
}

// wantSure fails if the plan is none, if it may end elsewhere than it should, or if a failure in it may leave what none of the allowed is the repair of.
func wantSure(t *testing.T, what string, disk string, plan string, end string, allowed ...string) {
	t.Helper()
	records, right := modelRecords(plan, len(disk)/32)
	if !right {
		t.Fatalf("%s: no plan for a disk of %d sectors: %x", what, len(disk)/32, plan)
	}
	from := rand.New(rand.NewSource(7))
	for n := range len(records) + 1 {
		for _, there := range crashed(from, disk, records, n) {
			if _, repair := modelSort(there); repair == "" || !slices.Contains(allowed, repair) {
				t.Fatalf("%s: behind %d records of %x there may be %x, whose repair is %x", what, n, plan, there, repair)
			}
			if n == len(records) && there != end {
				t.Fatalf("%s: the plan %x may end at %x, not at %x", what, plan, there, end)
			}
		}
	}
}
