package relax

import "math/bits"

// sum is a number of 128 bits, the highest one its sign: Places and Fits take any Sizes, and a distance that went round
// in an int could seem to be a short one.
type sum struct{ high, low uint64 }

// sumOf is an int as a sum.
func sumOf(n int) sum { return sum{uint64(int64(n) >> 63), uint64(n)} }

// plus is the sum and n.
func (s sum) plus(n int) sum {
	t := sumOf(n)
	low, carry := bits.Add64(s.low, t.low, 0)
	high, _ := bits.Add64(s.high, t.high, carry)
	return sum{high, low}
}

// minus is the sum less another one.
func (s sum) minus(t sum) sum {
	low, borrow := bits.Sub64(s.low, t.low, 0)
	high, _ := bits.Sub64(s.high, t.high, borrow)
	return sum{high, low}
}

// negative is whether the sum is below 0.
func (s sum) negative() bool { return s.high>>63 == 1 }

// between is whether the sum is from first to last.
func (s sum) between(first, last int) bool {
	return !s.minus(sumOf(first)).negative() && !sumOf(last).minus(s).negative()
}

// cut is the sum as an int has it.
func (s sum) cut() int { return int(s.low) }
