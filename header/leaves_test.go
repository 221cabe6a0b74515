package header

import (
	"bytes"
	"testing"

	"seisin/api"
)

// entryOf is an entry's form, by the document's words.
func entryOf(e api.Entry) []byte {
	b := append(numOf(uint64(e.Kind)), numOf(uint64(e.Shard))...)
	b = append(b, e.Tx[:]...)
	b = append(b, numOf(e.Amount)...)
	b = append(b, numOf(uint64(e.Why))...)
	return append(b, numOf(uint64(e.Epoch))...)
}

func plainEntry() api.Entry {
	return api.Entry{Kind: 2, Shard: 5, Tx: digest(3), Amount: 300, Why: 13, Epoch: 70000}
}

// wrongEntries are such as aren't right, each by one number.
func wrongEntries() []api.Entry {
	l := []api.Entry{{}}
	for _, turn := range []func(e *api.Entry){
		func(e *api.Entry) { e.Kind = 0 },
		func(e *api.Entry) { e.Kind = -1 },
		func(e *api.Entry) { e.Kind = 4 },
		func(e *api.Entry) { e.Shard = -1 },
		func(e *api.Entry) { e.Shard = 64 },
		func(e *api.Entry) { e.Amount = top + 1 },
		func(e *api.Entry) { e.Why = -1 },
		func(e *api.Entry) { e.Why = 64 },
		func(e *api.Entry) { e.Epoch = -1 },
		func(e *api.Entry) { e.Epoch = highest + 1 },
	} {
		e := plainEntry()
		turn(&e)
		l = append(l, e)
	}
	return l
}

// commands are bytes of many lengths; a block takes any.
func commands() [][]byte {
	l := [][]byte{nil, {}, {0}, []byte("cmd"), entryOf(plainEntry()), numOf(300)}
	for _, n := range []int{55, 56, 63, 64, 65, 255, 256, 300, 65536, 1 << 20} {
		l = append(l, bytes.Repeat([]byte{byte(n), 0xa5, 0}, n)[:n])
	}
	return l
}

// checkLeaves holds a block's leaves against the document's words.
func checkLeaves(t *testing.T, command []byte, e api.Entry, issued uint64) {
	t.Helper()
	l, ok := Leaves(command, e, issued)
	if !ok || len(l) != 3 {
		t.Fatalf("%v, %d: %v, %v", e, issued, l, ok)
	}
	for i, want := range [][]byte{command, entryOf(e), numOf(issued)} {
		if !bytes.Equal(l[i], want) {
			t.Fatalf("%v, %d: the leaf at %d is % x, not % x", e, issued, i, l[i], want)
		}
	}
}

// P10.1: Leaves

func TestLeavesByHand(t *testing.T) {
	d := digest(3)
	l, ok := Leaves([]byte("cmd"), plainEntry(), 300)
	if !ok || len(l) != 3 || string(l[0]) != "cmd" || string(l[2]) != "\x02\x01\x2c" {
		t.Fatalf("%q, %v", l, ok)
	}
	if want := "\x01\x02" + "\x01\x05" + string(d[:]) + "\x02\x01\x2c" + "\x01\x0d" + "\x03\x01\x11\x70"; string(l[1]) != want {
		t.Errorf("% x, not % x", l[1], want)
	}
	if api.EntryLeaf != 1 {
		t.Error("the entry is another leaf")
	}
}

func TestLeavesOfEachCommand(t *testing.T) {
	for _, c := range commands() {
		for kind := 1; kind <= 3; kind++ {
			for _, issued := range []uint64{0, 1, 255, 256, 300, 1 << 32, top - 1, top} {
				e := plainEntry()
				e.Kind = kind
				checkLeaves(t, c, e, issued)
			}
		}
	}
}

func TestLeavesOfEntriesAtTheirEdges(t *testing.T) {
	for _, e := range []api.Entry{
		{Kind: 1},
		{Kind: 3, Shard: 63, Tx: digest(4), Amount: top, Why: 63, Epoch: highest},
		{Kind: 2, Shard: 64 - 1, Amount: top - 1, Why: 1, Epoch: 1},
	} {
		checkLeaves(t, []byte("a command"), e, 7)
	}
}

func TestLeavesOfWhatWasIssued(t *testing.T) {
	for _, c := range []struct {
		issued uint64
		form   string
	}{
		{0, "\x00"}, {1, "\x01\x01"}, {255, "\x01\xff"}, {256, "\x02\x01\x00"},
		{top - 1, "\x08\x3f\xff\xff\xff\xff\xff\xff\xff"},
		{top, "\x08\x40\x00\x00\x00\x00\x00\x00\x00"},
	} {
		if l, ok := Leaves(nil, plainEntry(), c.issued); !ok || len(l) != 3 || string(l[2]) != c.form {
			t.Errorf("%d: %q, %v", c.issued, l, ok)
		}
	}
	for _, issued := range []uint64{top + 1, top + 2, 2*top - 1, 2 * top, 2*top + 1, 3 * top, most - 1, most} {
		if l, ok := Leaves([]byte("cmd"), plainEntry(), issued); ok || len(l) > 0 {
			t.Errorf("%d: %q, %v", issued, l, ok)
		}
	}
}

func TestLeavesOfWrongEntries(t *testing.T) {
	for _, e := range wrongEntries() {
		for _, issued := range []uint64{0, 300, top, top + 1} {
			if l, ok := Leaves([]byte("cmd"), e, issued); ok || len(l) > 0 {
				t.Errorf("%v: %q, %v", e, l, ok)
			}
		}
	}
}

// What is handed in is neither changed nor kept, and no two leaves share memory.
func TestLeavesShareNoMemory(t *testing.T) {
	whole := []byte("a command, and more")
	was := bytes.Clone(whole)
	l, ok := Leaves(whole[:9], plainEntry(), 300)
	if !ok || string(l[0]) != "a command" {
		t.Fatalf("%q, %v", l, ok)
	}
	for i := range l {
		want := [][]byte{bytes.Clone(l[0]), bytes.Clone(l[1]), bytes.Clone(l[2])}
		// Also what lies behind its length, which an append may write over.
		room := l[i][:cap(l[i])]
		for j := range room {
			room[j] = 0xee
		}
		for j := range l {
			if j != i && !bytes.Equal(l[j], want[j]) {
				t.Errorf("the leaves at %d and %d share memory", i, j)
			}
		}
	}
	if !bytes.Equal(whole, was) {
		t.Errorf("the command has changed: %q", whole)
	}
	l, _ = Leaves(whole, plainEntry(), 300)
	for i := range whole {
		whole[i] = 0xee
	}
	if !bytes.Equal(l[0], was) {
		t.Errorf("the command is kept: %q", l[0])
	}
}
