package rate

import (
	"math"
	"slices"
	"testing"
)

// notNumber answers what is not a number with a mark of its own in its bits,
// so that like ones can be told apart.
func notNumber(mark uint64) float64 {
	return math.Float64frombits(0x7ff8000000000000 | mark)
}

func minusZero() float64 { return math.Copysign(0, -1) }

// classes are all kinds of rates, rising; those of one class are alike.
func classes() [][]float64 {
	return [][]float64{
		{math.NaN(), notNumber(7), math.Copysign(notNumber(9), -1)},
		{math.Inf(-1)},
		{-math.MaxFloat64},
		{-2},
		{math.Nextafter(-1, -2)},
		{-1},
		{-math.SmallestNonzeroFloat64},
		{minusZero()},
		{0},
		{math.SmallestNonzeroFloat64},
		{1e-300},
		{1},
		{math.Nextafter(1, 2)},
		{3, 3},
		{math.MaxFloat64},
		{math.Inf(1)},
	}
}

// flat answers all rates of classes, and the class of each.
func flat() (rates []float64, class []int) {
	for i, c := range classes() {
		for _, x := range c {
			rates = append(rates, x)
			class = append(class, i)
		}
	}
	return rates, class
}

func sign(n int) int {
	switch {
	case n < 0:
		return -1
	case n > 0:
		return 1
	}
	return 0
}

func sameBits(a, b []float64) bool {
	return slices.EqualFunc(a, b, func(x, y float64) bool {
		return math.Float64bits(x) == math.Float64bits(y)
	})
}

// mixed answers n rates of all classes in a row without order, always the same
// row; those that are not numbers bear their places in their bits.
func mixed(n int) []float64 {
	rates, _ := flat()
	l := make([]float64, n)
	step := uint32(n + 1)
	for i := range l {
		step = step*1664525 + 1013904223
		l[i] = rates[int(step>>16)%len(rates)]
		if math.IsNaN(l[i]) {
			l[i] = notNumber(uint64(i + 1))
		}
	}
	return l
}

// fallingByBits sorts by a way of its own: it draws the first of the greatest
// by keys made of the numbers' bits, till none is left.
func fallingByBits(l []float64) []float64 {
	key := func(x float64) uint64 {
		bits := math.Float64bits(x)
		switch {
		case x != x:
			return 0
		case bits>>63 == 1:
			return ^bits
		}
		return bits | 1<<63
	}
	rest, out := slices.Clone(l), []float64{}
	for len(rest) > 0 {
		at := 0
		for i, x := range rest {
			if key(x) > key(rest[at]) {
				at = i
			}
		}
		out = append(out, rest[at])
		rest = slices.Delete(rest, at, at+1)
	}
	return out
}

// P1.1

func TestOfDividesNumbersWithAPoint(t *testing.T) {
	for _, c := range []struct {
		fee  uint64
		size int
		want float64
	}{
		{7, 2, 3.5},
		{6, 2, 3},
		{1, 3, 1.0 / 3.0},
		{1, 1, 1},
		{0, 3, 0},
		{0, math.MaxInt, 0},
		{1, math.MaxInt, 1.0 / (1 << 63)},
		{1<<53 + 1, 1, 1 << 53},
		{1<<53 + 3, 1, 1<<53 + 4},
		{1 << 62, 1, 1 << 62},
		{1 << 63, 1, 1 << 63},
		{1<<63 + 1<<10, 1, 1 << 63},
		{1<<63 + 1<<10 + 1, 1, 1<<63 + 1<<11},
		{math.MaxUint64, 1, 1 << 64},
		{math.MaxUint64, math.MaxInt, 2},
		{1 << 53, 1<<53 + 1, 1},
	} {
		got := Of(c.fee, c.size)
		if math.Float64bits(got) != math.Float64bits(c.want) {
			t.Errorf("Of(%d, %d) is %v, not %v", c.fee, c.size, got, c.want)
		}
	}
}

func TestOfSizeZero(t *testing.T) {
	for _, fee := range []uint64{1, 2, 1 << 62, 1 << 63, math.MaxUint64} {
		if got := Of(fee, 0); !math.IsInf(got, 1) {
			t.Errorf("Of(%d, 0) is %v", fee, got)
		}
	}
	if got := Of(0, 0); !math.IsNaN(got) {
		t.Errorf("Of(0, 0) is %v", got)
	}
}

func TestOfSizeBelowZero(t *testing.T) {
	for _, fee := range []uint64{0, 1, 5, 1 << 63, math.MaxUint64} {
		for _, size := range []int{-1, -2, -1 << 40, math.MinInt + 1, math.MinInt} {
			if got := Of(fee, size); !math.IsNaN(got) {
				t.Errorf("Of(%d, %d) is %v", fee, size, got)
			}
		}
	}
}

func TestOfNothingForNothingIsBehindAllOthers(t *testing.T) {
	rates, class := flat()
	for i, x := range rates {
		want := -1
		if class[i] == 0 {
			want = 0
		}
		if got := Compare(Of(0, 0), x); got != want {
			t.Errorf("held against %v: %d, not %d", x, got, want)
		}
	}
}

func TestCompareEveryPair(t *testing.T) {
	rates, class := flat()
	for i, a := range rates {
		for k, b := range rates {
			if got, want := Compare(a, b), sign(class[i]-class[k]); got != want {
				t.Errorf("Compare(%v, %v) is %d, not %d", a, b, got, want)
			}
		}
	}
}

func TestPlain(t *testing.T) {
	for _, x := range []float64{0, 1, -1, 3.5, -3, 1e-300, math.MaxFloat64, -math.MaxFloat64,
		math.SmallestNonzeroFloat64, -math.SmallestNonzeroFloat64} {
		if !Plain(x) {
			t.Errorf("%v is plain", x)
		}
	}
	for _, x := range []float64{minusZero(), math.Inf(1), math.Inf(-1), math.NaN(), notNumber(5),
		math.Copysign(math.NaN(), -1)} {
		if Plain(x) {
			t.Errorf("%v isn't plain", x)
		}
	}
}

// P1.2

func TestBest(t *testing.T) {
	nan, inf := math.NaN(), math.Inf(1)
	for _, c := range []struct {
		l    []float64
		want int
	}{
		{[]float64{4}, 0},
		{[]float64{1, 2, 3}, 2},
		{[]float64{3, 2, 1}, 0},
		{[]float64{1, 3, nan, 3}, 1},
		{[]float64{2, 2, 2}, 0},
		{[]float64{nan}, 0},
		{[]float64{nan, nan}, 0},
		{[]float64{nan, -inf, nan}, 1},
		{[]float64{nan, 1}, 1},
		{[]float64{1, nan}, 0},
		{[]float64{-inf, -2, -1}, 2},
		{[]float64{1, inf, math.MaxFloat64, inf}, 1},
		{[]float64{minusZero(), 0, minusZero(), 0}, 1},
		{[]float64{0, minusZero()}, 0},
		{[]float64{-1, minusZero()}, 1},
	} {
		if at, ok := Best(c.l); at != c.want || !ok {
			t.Errorf("Best(%v) is %d, %v, not %d", c.l, at, ok, c.want)
		}
	}
}

func TestBestOfNone(t *testing.T) {
	behind := []float64{1, 2}
	for _, l := range [][]float64{nil, {}, behind[:0]} {
		if at, ok := Best(l); at != 0 || ok {
			t.Errorf("%d, %v", at, ok)
		}
	}
}

func TestSortFallsOverAllClasses(t *testing.T) {
	rates, _ := flat()
	got := Sort(rates)
	if !sameBits(got, fallingByBits(rates)) {
		t.Error(got)
	}
	if !math.IsInf(got[0], 1) || !math.IsNaN(got[len(got)-1]) {
		t.Error(got)
	}
}

func TestSortKeepsLikeOnesAsTheyStood(t *testing.T) {
	l := []float64{notNumber(2), 5, notNumber(1), 5, notNumber(3), 6}
	want := []float64{6, 5, 5, notNumber(2), notNumber(1), notNumber(3)}
	if got := Sort(l); !sameBits(got, want) {
		t.Error(got)
	}
	for n := range 300 {
		l := mixed(n)
		if got := Sort(l); !sameBits(got, fallingByBits(l)) {
			t.Fatalf("of %d: %v", n, got)
		}
	}
}

func TestSortOfNone(t *testing.T) {
	if len(Sort(nil)) != 0 || len(Sort([]float64{})) != 0 {
		t.Error("none is some")
	}
}

func TestMiddle(t *testing.T) {
	nan, inf := math.NaN(), math.Inf(1)
	for _, c := range []struct {
		l    []float64
		want float64
	}{
		{[]float64{4}, 4},
		{[]float64{5, 1, 3}, 3},
		{[]float64{5, 1}, 1},
		{[]float64{1, 5}, 1},
		{[]float64{1, 2, 3, 4}, 2},
		{[]float64{4, 3, 2, 1}, 2},
		{[]float64{2, 2, 1, 2, 2}, 2},
		{[]float64{nan, 7, inf}, 7},
		{[]float64{inf, -inf}, -inf},
		{[]float64{0, minusZero()}, minusZero()},
		{[]float64{minusZero(), 0, 1}, 0},
		{[]float64{notNumber(4), 1}, notNumber(4)},
		{[]float64{notNumber(4), notNumber(5)}, notNumber(5)},
	} {
		if got := Middle(c.l); math.Float64bits(got) != math.Float64bits(c.want) {
			t.Errorf("Middle(%v) is %v, not %v", c.l, got, c.want)
		}
	}
}

func TestMiddleOfNone(t *testing.T) {
	if !math.IsNaN(Middle(nil)) || !math.IsNaN(Middle([]float64{})) {
		t.Error("none has a middle")
	}
}

// P1.3

func TestOrderIsOne(t *testing.T) {
	rates, _ := flat()
	for _, a := range rates {
		if Compare(a, a) != 0 {
			t.Errorf("%v isn't like itself", a)
		}
		for _, b := range rates {
			if Compare(a, b) != -Compare(b, a) {
				t.Errorf("%v and %v are each behind the other, or neither is", a, b)
			}
		}
	}
}

func TestOrderGoesOnOverThree(t *testing.T) {
	rates, _ := flat()
	for _, a := range rates {
		for _, b := range rates {
			for _, c := range rates {
				if Compare(a, b) <= 0 && Compare(b, c) <= 0 && Compare(a, c) > 0 {
					t.Errorf("%v, %v, %v go round", a, b, c)
				}
				if Compare(a, b) == 0 && Compare(a, c) != Compare(b, c) {
					t.Errorf("%v and %v are alike, but not to %v", a, b, c)
				}
			}
		}
	}
}

func TestBestSortAndMiddleKeepTheOneOrder(t *testing.T) {
	for n := 1; n < 100; n++ {
		l := mixed(n)
		s := Sort(l)
		for i := 1; i < n; i++ {
			if Compare(s[i-1], s[i]) < 0 {
				t.Fatalf("of %d the row rises at %d", n, i)
			}
		}
		if at, ok := Best(l); !ok || !sameBits(l[at:at+1], s[:1]) {
			t.Fatalf("of %d the best isn't the row's first", n)
		}
		if !sameBits([]float64{Middle(l)}, s[n/2:n/2+1]) {
			t.Fatalf("of %d the middle isn't the row's", n)
		}
	}
}

// What is handed in stays as it was, also behind the list's length, and what is answered is new.
func TestListsAreNeitherChangedNorShared(t *testing.T) {
	whole := []float64{1, notNumber(3), minusZero(), 2, 9, 8}
	was := slices.Clone(whole)
	l := whole[:4]
	s := Sort(l)
	if at, ok := Best(l); at != 3 || !ok {
		t.Errorf("the best is at %d", at)
	}
	if got := Middle(l); math.Float64bits(got) != math.Float64bits(minusZero()) {
		t.Errorf("the middle is %v", got)
	}
	again := Sort(l)
	for i := range s {
		s[i] = -7
	}
	_ = append(s, -7, -7)
	if !sameBits(whole, was) {
		t.Errorf("%v was %v", whole, was)
	}
	if !sameBits(again, fallingByBits(l)) {
		t.Error(again)
	}
}
