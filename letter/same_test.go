package letter_test

import (
	"slices"
	"testing"

	"seisin/api"
	"seisin/letter"
)

// whole has something in all its parts: it isn't right.
func whole() api.Letter {
	return api.Letter{Kind: 3, Term: 7, At: 300, AtTerm: 6, To: 200, Yes: true, Items: items(4), B: row(40)}
}

// turns each make another letter of one, by one part alone.
func turns() []func(l *api.Letter) {
	list := []func(l *api.Letter){
		func(l *api.Letter) { l.Yes = !l.Yes },
		func(l *api.Letter) { l.Items = nil },
		func(l *api.Letter) { l.Items = l.Items[:3] },
		func(l *api.Letter) { l.Items = l.Items[1:] },
		func(l *api.Letter) { l.Items = append(slices.Clone(l.Items), api.Item{}) },
		func(l *api.Letter) { l.Items = append([]api.Item{{}}, l.Items...) },
		func(l *api.Letter) { slices.Reverse(l.Items) },
		func(l *api.Letter) { l.Items[1], l.Items[2] = l.Items[2], l.Items[1] },
		func(l *api.Letter) { l.Items = make([]api.Item, 4) },
		func(l *api.Letter) { l.Items = make([]api.Item, 20) },
		func(l *api.Letter) { l.B = nil },
		func(l *api.Letter) { l.B = l.B[:39] },
		func(l *api.Letter) { l.B = l.B[1:] },
		func(l *api.Letter) { l.B = append(slices.Clone(l.B), 0) },
		func(l *api.Letter) { l.B = make([]byte, 40) },
		func(l *api.Letter) { l.B = make([]byte, 70000) },
	}
	for _, by := range []int{1, -1, 2, 256, 1 << 32, -1 << 32, highest, -highest, -1 << 62, -1 << 63} {
		list = append(list,
			func(l *api.Letter) { l.Kind += by }, func(l *api.Letter) { l.Term += by }, func(l *api.Letter) { l.At += by },
			func(l *api.Letter) { l.AtTerm += by }, func(l *api.Letter) { l.To += by })
		for i := range 4 {
			list = append(list, func(l *api.Letter) { l.Items[i].Term += by })
		}
	}
	for i := range 4 {
		list = append(list,
			func(l *api.Letter) { l.Items[i].B = row(i*i + 1) },
			func(l *api.Letter) { l.Items[i].B = append(row(i*i), 0) })
		for bit := range 8 * i * i {
			list = append(list, func(l *api.Letter) { l.Items[i].B[bit/8] ^= 1 << (bit % 8) })
		}
	}
	for bit := range 8 * 40 {
		list = append(list, func(l *api.Letter) { l.B[bit/8] ^= 1 << (bit % 8) })
	}
	return list
}

// unlike are letters that are unlike whole in one part each.
func unlike() []api.Letter {
	var list []api.Letter
	for _, turn := range turns() {
		l := whole()
		turn(&l)
		list = append(list, l)
	}
	return list
}

// hold holds Same against the document's words, either way round.
func hold(t *testing.T, a, b api.Letter, want bool) {
	t.Helper()
	if letter.Same(a, b) != want || letter.Same(b, a) != want || sameBy(a, b) != want {
		t.Fatalf("%s and%s: not %v", told(a), told(b), want)
	}
}

// P15.1: Same

func TestSameOfUnlikeOnes(t *testing.T) {
	hold(t, whole(), whole(), true)
	for _, other := range unlike() {
		hold(t, whole(), other, false)
		hold(t, other, other, true)
		hold(t, api.Letter{}, other, false)
	}
	hold(t, api.Letter{}, whole(), false)
	hold(t, api.Letter{}, api.Letter{}, true)
}

func TestSameOfEachPair(t *testing.T) {
	list := append(unlike(), api.Letter{}, whole())
	for _, kind := range kinds() {
		list = append(list, plain(kind), api.Letter{Kind: kind})
	}
	for i, a := range list {
		for j, b := range list {
			if got, want := letter.Same(a, b), sameBy(a, b); got != want || i == j && !got {
				t.Fatalf("%s and%s: %v", told(a), told(b), got)
			}
		}
	}
}

// Parts that a kind doesn't use are looked at, too.
func TestSameLooksAtAllPartsOfEachKind(t *testing.T) {
	for _, kind := range []int{-1, 0, 1, 2, 3, 4, 5, 6} {
		a := whole()
		a.Kind = kind
		for _, turn := range turns() {
			b := whole()
			b.Kind = kind
			turn(&b)
			hold(t, a, b, false)
		}
	}
}

// Lists are the same by their elements, wherever these lie; a list that is nil
// and one without elements are the same thing.
func TestSameOfLists(t *testing.T) {
	hold(t, api.Letter{Items: []api.Item{}, B: []byte{}}, api.Letter{}, true)
	hold(t, api.Letter{Items: items(9)[:0], B: row(9)[:0]}, api.Letter{}, true)
	hold(t, api.Letter{Items: []api.Item{{B: []byte{}}}}, api.Letter{Items: []api.Item{{}}}, true)
	hold(t, api.Letter{Items: []api.Item{{B: []byte{0}}}}, api.Letter{Items: []api.Item{{}}}, false)
	hold(t, api.Letter{Items: []api.Item{{}}}, api.Letter{}, false)
	hold(t, api.Letter{B: []byte{0}}, api.Letter{}, false)
	// What lies behind a length isn't read.
	a, b := whole(), whole()
	a.Items, a.B = append(a.Items, api.Item{Term: 1})[:4], append(a.B, 1)[:40]
	b.Items, b.B = append(b.Items, api.Item{Term: 2})[:4], append(b.B, 2)[:40]
	hold(t, a, b, true)
	a.Items[1].B, b.Items[1].B = []byte("ab")[:1], []byte("ac")[:1]
	hold(t, a, b, true)
	if len(a.Items) != 4 || a.Items[:5][4].Term != 1 || b.B[:41][40] != 2 {
		t.Error("what was handed in has changed")
	}
}
