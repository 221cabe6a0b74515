package vote_test

import (
	"math"
	"slices"
	"testing"

	"seisin/vote"
)

// agreedBy is Agreed, by the document's words: of each index it counts who has
// that one, or more.
func agreedBy(have []int) (int, bool) {
	greatest, found := 0, false
	for _, index := range have {
		count := 0
		for _, other := range have {
			if other >= index {
				count++
			}
		}
		enough := enoughBy(len(have))
		if enough > 0 && count >= enough && (!found || index > greatest) {
			greatest, found = index, true
		}
	}
	return greatest, found
}

// checkAgreed holds Agreed against agreedBy; it answers what is agreed.
func checkAgreed(t *testing.T, have []int) (int, bool) {
	t.Helper()
	was := slices.Clone(have)
	got, ok := vote.Agreed(have)
	if want, wantOk := agreedBy(was); got != want || ok != wantOk {
		t.Fatalf("of %v: %d, %v, not %d, %v", was, got, ok, want, wantOk)
	}
	if !slices.Equal(have, was) {
		t.Fatalf("%v is turned to %v", was, have)
	}
	return got, ok
}

// P16.2

func TestAgreedByHand(t *testing.T) {
	for _, c := range []struct {
		have []int
		want int
	}{
		{[]int{4, 9, 7}, 7}, // the document's example
		{[]int{5}, 5},
		{[]int{0}, 0},
		{[]int{1, 9}, 1},
		{[]int{9, 1}, 1},
		{[]int{8, 1, 9, 2}, 2},
		{[]int{0, 0, 7, 7, 7}, 7},
		{[]int{0, 0, 0, 7, 7}, 0},
		{[]int{1, 2, 3, 4, 5}, 3},
		{[]int{6, 5, 4, 3, 2, 1}, 3},
		{[]int{7, 1, 6, 2, 5, 3, 4}, 4},
		{[]int{7, 7, 7, 7, 7, 7, 7}, 7},
		{[]int{highest, 0, highest}, highest},
	} {
		if got, ok := checkAgreed(t, c.have); got != c.want || !ok {
			t.Errorf("of %v: %d, %v, not %d", c.have, got, ok, c.want)
		}
	}
}

func TestAgreedOfOthersThanGroups(t *testing.T) {
	for _, have := range [][]int{nil, {}, make([]int, 0, 5), {1, 2, 3, 4, 5, 6, 7, 8}, slices.Repeat([]int{3}, 8), slices.Repeat([]int{3}, 9),
		slices.Repeat([]int{3, 5}, 128), slices.Repeat([]int{3}, 257), slices.Repeat([]int{3}, 1<<16+3), slices.Repeat([]int{7, 9}, 100000)} {
		if got, ok := vote.Agreed(have); ok || got != 0 {
			t.Errorf("of %d: %d, %v", len(have), got, ok)
		}
	}
	for n := range 300 {
		if _, ok := checkAgreed(t, slices.Repeat([]int{2}, n)); ok != (n >= 1 && n <= most) {
			t.Errorf("of %d: %v", n, ok)
		}
	}
}

// eachRow calls do with all rows of so many numbers out of a list.
func eachRow(many int, list []int, do func(row []int)) {
	row := make([]int, many)
	var fill func(at int)
	fill = func(at int) {
		if at == many {
			do(row)
			return
		}
		for _, n := range list {
			row[at] = n
			fill(at + 1)
		}
	}
	fill(0)
}

func TestAgreedOfAllSmallGroups(t *testing.T) {
	for many, list := range [][]int{nil, wide(), wide(), wide(), {0, 1, 2, 3, 4, 5, 6, 7}, {0, 1, 2, 3, 4, 5}, {0, 1, 2, 3, 4}, {0, 1, 2, 3}} {
		eachRow(many, list, func(row []int) { checkAgreed(t, row) })
	}
}

// Enough have what is agreed; of what is above it there aren't enough.
func TestAgreedIsTheGreatest(t *testing.T) {
	for many := 1; many <= most; many++ {
		eachRow(many, []int{0, 3, 9}, func(row []int) {
			agreed, ok := vote.Agreed(row)
			if !ok {
				t.Fatalf("of %v nothing is agreed", row)
			}
			has := func(index int) int {
				return len(slices.DeleteFunc(slices.Clone(row), func(n int) bool { return n < index }))
			}
			if has(agreed) < vote.Enough(many) || has(agreed+1) >= vote.Enough(many) {
				t.Fatalf("of %v: %d", row, agreed)
			}
		})
	}
}

// The order in which replicas stand makes nothing else agreed.
func TestAgreedHangsOnNoOrder(t *testing.T) {
	eachRow(7, []int{0, 1, 2, 3, 4, 5, 6}, func(row []int) {
		if rising := slices.Sorted(slices.Values(row)); len(slices.Compact(rising)) < most {
			return
		}
		if got, ok := checkAgreed(t, row); got != 3 || !ok {
			t.Fatalf("of %v: %d, %v", row, got, ok)
		}
	})
}

func TestAgreedOfNumbersOfAnySize(t *testing.T) {
	eachRow(5, []int{math.MinInt, -1, 0, highest, math.MaxInt}, func(row []int) { checkAgreed(t, row) })
	eachRow(7, []int{math.MinInt, 0, math.MaxInt}, func(row []int) { checkAgreed(t, row) })
}

// What is handed in stays in its order, and what is behind its length isn't
// read.
func TestAgreedLeavesItsList(t *testing.T) {
	whole := []int{9, 2, 5, 100, 100, 100, 100, 100}
	if got, ok := vote.Agreed(whole[:3]); got != 5 || !ok {
		t.Errorf("%d, %v", got, ok)
	}
	if !slices.Equal(whole, []int{9, 2, 5, 100, 100, 100, 100, 100}) {
		t.Errorf("%v", whole)
	}
	if got, ok := vote.Agreed(whole[:0]); got != 0 || ok {
		t.Errorf("behind its length: %d, %v", got, ok)
	}
}
