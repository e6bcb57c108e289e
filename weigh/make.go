package weigh

import (
	"math/bits"

	"verditer/api"
)

// Most returns the greatest number of lots for which some plan of so many weighings tells, 0 if there is none.
func Most(weighings int) (int, api.Errno) {
	if !areWeighings(weighings) {
		return 0, api.ErrArg
	}
	// Each lot takes two opposite answers of those that are not blank. If the lots took all of these, each weighing
	// would have an odd number of lots: so at least two answers are left over.
	return max((results(weighings)-3)/2, 0), api.OK
}

// CanTell reports whether some plan of so many weighings tells for so many lots.
func CanTell(lots, weighings int) (bool, api.Errno) {
	if !areLots(lots) {
		return false, api.ErrArg
	}
	most, e := Most(weighings)
	return 3 <= lots && lots <= most, e // the mark of a single lot is blank, and those of two lots are opposite
}

// Make returns a plan of so many weighings that tells for so many lots, and whether there is one.
func Make(lots, weighings int) ([]api.Weighing, bool, api.Errno) {
	if !areLots(lots) || !areWeighings(weighings) {
		return nil, false, api.ErrArg
	}
	marks, ok := telling(lots, weighings)
	if !ok {
		return nil, false, api.OK
	}
	return planOf(marks, weighings), true, api.OK
}

// Least returns the smallest number of weighings of which some plan tells for so many lots.
func Least(lots int) (int, api.Errno) {
	if !areLots(lots) {
		return 0, api.ErrArg
	}
	for weighings := range api.MaxWeighings + 1 {
		if ok, _ := CanTell(lots, weighings); ok {
			return weighings, api.OK
		}
	}
	return 0, api.ErrNone
}

// results returns how many different answers so many weighings can have.
func results(weighings int) int {
	n := 1
	for range weighings {
		n *= 3
	}
	return n
}

// telling returns marks for so many lots, and whether there are any: none is blank, no two are the same or opposite,
// and they add up to the blank one.
func telling(lots, weighings int) ([]mark, bool) {
	all := kinds(weighings)
	var marks []mark
	for set := range 1 << len(all) {
		if bits.OnesCount(uint(set)) != lots {
			continue
		}
		marks = chosen(all, set)
		for i := range 1 << lots {
			if i > 0 { // in this order one turn a step leads through all choices of the marks that are turned
				at := bits.TrailingZeros(uint(i))
				marks[at] = marks[at].times(-1)
			}
			if sum(marks) == blank() {
				goto found
			}
		}
	}
	return nil, false
found:
	return marks, true
}

// kinds returns one of each two opposite marks that so many weighings can have, without the blank one.
func kinds(weighings int) []mark {
	var all []mark
	for n := 1; 2*n < results(weighings); n++ {
		all = append(all, digits(n))
	}
	return all
}

// digits writes a number to the base 3 with digits from -1 to 1, the last one first. Different numbers have different
// digits, and those of -n are opposite to those of n: so the digits of two numbers above 0 never are opposite.
func digits(n int) mark {
	var m mark
	for k := range m {
		m[k] = (n+1)%3 - 1
		n = (n - m[k]) / 3
	}
	return m
}

// chosen returns the marks whose places are bits of set.
func chosen(marks []mark, set int) []mark {
	var l []mark
	for i, m := range marks {
		if set>>i&1 == 1 {
			l = append(l, m)
		}
	}
	return l
}
