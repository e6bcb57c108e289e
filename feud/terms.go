package feud

import "verditer/api"

// Count returns the number of shelvings with so many shelves.
func Count(s api.Shop, shelves int) (int, api.Errno) {
	if e := validateShelves(s, shelves); e != api.OK {
		return 0, e
	}
	return valueAt(shelves, shopOf(s).terms()), api.OK
}

// Terms returns the numbers whose sum, each times its power of the number of shelves, is Count.
func Terms(s api.Shop) ([]int, api.Errno) {
	if e := Validate(s); e != api.OK {
		return nil, e
	}
	return shopOf(s).terms(), api.OK
}

// Orders returns in how many ways the feuds can be given directions that never lead back to where they began.
func Orders(s api.Shop) (int, api.Errno) {
	if e := Validate(s); e != api.OK {
		return 0, e
	}
	n := valueAt(-1, shopOf(s).terms()) // the ways are counted by the terms at -1, but for the sign
	return max(n, -n), api.OK
}

// terms is Terms. One of shelvings that uses n shelves stands for k times (k - 1) .. times (k - n + 1) shelvings with
// k shelves, one for each choice of the numbers. The sum of these products is built from the longest one down:
// ways[0] + k * (ways[1] + (k - 1) * (ways[2] + ..)).
func (in shop) terms() []int {
	ways := make([]int, in.paints+1)
	for _, l := range in.shelvings() {
		ways[inUse(l)]++
	}
	var terms []int
	for n := in.paints; n >= 0; n-- {
		terms = timesLess(terms, n)
		terms[0] += ways[n]
	}
	return terms
}

// timesLess returns the terms of what has these terms, times k - n.
func timesLess(terms []int, n int) []int {
	out := make([]int, len(terms)+1)
	for i, t := range terms {
		out[i] -= n * t
		out[i+1] += t
	}
	return out
}

// valueAt returns the sum of the terms, each times its power of k.
func valueAt(k int, terms []int) int {
	sum, power := 0, 1
	for _, t := range terms {
		sum += t * power
		power *= k
	}
	return sum
}
