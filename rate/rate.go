// Package rate is layer 1: fee rates, as numbers with a point, in one total order.
package rate

import (
	"math"
	"slices"
)

// Of answers the rate of a fee for a size.
func Of(fee uint64, size int) float64 {
	switch {
	case size > 0:
		return float64(fee) / float64(size)
	case size == 0 && fee > 0:
		return math.Inf(1)
	}
	// 0/0 made by the machine may carry a sign or not; math's is the same everywhere.
	return math.NaN()
}

// Compare answers -1, 0 or 1, as a is below, like or above b in the order of rates.
func Compare(a, b float64) int {
	switch {
	case less(a, b):
		return -1
	case less(b, a):
		return 1
	}
	return 0
}

// less fills the two gaps that < leaves in a total order: it finds no order
// between what is not a number and anything else, and takes both zeros for one.
func less(a, b float64) bool {
	switch {
	case math.IsNaN(a) || math.IsNaN(b):
		return math.IsNaN(a) && !math.IsNaN(b)
	case a == 0 && b == 0:
		return math.Signbit(a) && !math.Signbit(b)
	}
	return a < b
}

// Best answers the place of the greatest rate, of like ones the first, or false where there is none.
func Best(l []float64) (int, bool) {
	if len(l) == 0 {
		return 0, false
	}
	best := 0
	for i, x := range l {
		if less(l[best], x) {
			best = i
		}
	}
	return best, true
}

// Sort answers the rates of l in a new list, falling, like ones as they stood.
func Sort(l []float64) []float64 {
	falling := make([]float64, len(l))
	copy(falling, l)
	// Like ones can be told apart where they are not numbers, by their bits: so the sort has to be stable.
	slices.SortStableFunc(falling, func(a, b float64) int { return Compare(b, a) })
	return falling
}

// Middle answers the rate in the middle of the falling row, of two there the later one.
func Middle(l []float64) float64 {
	if len(l) == 0 {
		return math.NaN()
	}
	return Sort(l)[len(l)/2]
}

// Plain tells whether x is a number that is neither infinite nor 0 with a sign.
func Plain(x float64) bool {
	switch {
	case math.IsNaN(x), math.IsInf(x, 0):
		return false
	case x == 0:
		return !math.Signbit(x)
	}
	return true
}
