package measure

import (
	"math"
	"slices"
	"sort"

	"burin/api"
)

// values are sorted by Order ahead of being counted: numbers rise, NaNs stand last.
type values []float64

// Tolerance tells x, if it is a tolerance.
func Tolerance(x float64) (float64, api.Errno) {
	switch {
	case math.IsNaN(x) || x < 0:
		return 0, api.ErrTolerance
	case x == 0:
		return 0, api.OK // -0, too
	}
	return x, api.OK
}

// Within tells whether a and b are no farther from each other than the tolerance.
func Within(a, b, tolerance float64) bool {
	if _, err := Tolerance(tolerance); err != api.OK {
		return false
	}
	// Infinities of one sign are equal, but have no difference; NaNs fail both ways.
	return a == b || math.Abs(a-b) <= tolerance
}

// Order compares floats by size: -0 ahead of +0, NaNs last.
func Order(a, b float64) int {
	switch {
	case math.IsNaN(a) && math.IsNaN(b):
		return 0
	case math.IsNaN(b) || a < b:
		return -1
	case math.IsNaN(a) || a > b:
		return 1
	}
	return side(a) - side(b)
}

// Mean tells the middle of the values, added from the first to the last.
func Mean(l []float64) float64 {
	if len(l) == 0 {
		return math.NaN()
	}
	sum := l[0] // not 0: the sum of -0 alone is -0
	for _, v := range l[1:] {
		sum += v
	}
	return sum / float64(len(l))
}

// Bins counts the values below, between and from the edges on; the last count is of NaNs.
func Bins(l, edges []float64) ([]int, api.Errno) {
	if !areRising(edges) {
		return nil, api.ErrTolerance
	}
	sorted := values(slices.Clone(l))
	sort.Slice(sorted, sorted.ahead)
	counts := make([]int, len(edges)+2)
	done := 0
	for i := range len(edges) {
		below := sorted.below(edges[i])
		counts[i] = below - done
		done = below
	}
	numbers := sorted.numbers()
	counts[len(edges)] = numbers - done
	counts[len(edges)+1] = len(sorted) - numbers
	return counts, api.OK
}

// areRising asks by size alone: -0 and +0 are one edge.
func areRising(edges []float64) bool {
	for i := range len(edges) {
		if math.IsNaN(edges[i]) || i > 0 && edges[i] <= edges[i-1] {
			return false
		}
	}
	return true
}

// ahead tells whether value i stands ahead of value j.
func (v values) ahead(i, j int) bool {
	return Order(v[i], v[j]) < 0
}

// below tells how many values are below an edge.
func (v values) below(edge float64) int {
	return sort.Search(len(v), func(i int) bool { return math.IsNaN(v[i]) || v[i] >= edge })
}

// numbers tells how many values are no NaNs.
func (v values) numbers() int {
	return sort.Search(len(v), func(i int) bool { return math.IsNaN(v[i]) })
}

// side is -1 of what has a minus, else 0: equal numbers have unlike ones only as noughts.
func side(x float64) int {
	if math.Signbit(x) {
		return -1
	}
	return 0
}
