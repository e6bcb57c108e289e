package knead

import (
	"slices"

	"verditer/api"
)

// Times returns the smallest number, from 1 on, of folds of one kind after which each lump is where it was.
func Times(lumps, kind int) (int, api.Errno) {
	if e := validateKind(lumps, kind); e != api.OK {
		return 0, e
	}
	start := numbered(lumps)
	times, b := 1, start.fold(kind)()
	for !slices.Equal(b, start) {
		times, b = times+1, b.fold(kind)()
	}
	return times, api.OK
}

// Rounds returns the lengths of the cycles of one fold, in ascending order.
func Rounds(lumps, kind int) ([]int, api.Errno) {
	if e := validateKind(lumps, kind); e != api.OK {
		return nil, e
	}
	lengths := numbered(lumps).fold(kind)().rounds()
	slices.Sort(lengths)
	return lengths, api.OK
}

// IsOdd reports whether an odd number of exchanges of two lumps makes what a word makes.
func IsOdd(lumps int, word []int) (bool, api.Errno) {
	if e := validateLumpsAndWords(lumps, word); e != api.OK {
		return false, e
	}
	odd := false
	for _, length := range numbered(lumps).behind(word).rounds() {
		// One exchange fewer than it has lumps makes a round.
		odd = odd != (length%2 == 0)
	}
	return odd, api.OK
}

// Still returns the number of lumps that are at their place again behind a word.
func Still(lumps int, word []int) (int, api.Errno) {
	if e := validateLumpsAndWords(lumps, word); e != api.OK {
		return 0, e
	}
	still := 0
	for place, lump := range numbered(lumps).behind(word) {
		if lump == place {
			still++
		}
	}
	return still, api.OK
}

// validateKind is validateLumps, and ErrArg if there is no such kind of folds.
func validateKind(lumps, kind int) api.Errno {
	if e := validateLumps(lumps); e != api.OK {
		return e
	}
	if !isKind(kind) {
		return api.ErrArg
	}
	return api.OK
}

// rounds returns the lengths of the cycles of what made b of a numbered batch.
func (b batch) rounds() []int {
	var lengths []int
	seen := make([]bool, len(b))
	for start := range b {
		length := 0
		for place := start; !seen[place]; place = b[place] {
			seen[place] = true
			length++
		}
		if length > 0 {
			lengths = append(lengths, length)
		}
	}
	return lengths
}
