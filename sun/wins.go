package sun

import (
	"cmp"
	"slices"

	"verditer/api"
)

// CanWin reports whether some table has these wins.
func CanWin(wins []int) (bool, api.Errno) {
	if e := validateWins(wins); e != api.OK {
		return false, e
	}
	// Some strips win at least against each other, and all of them together win just once a pair.
	sum, pairs := 0, 0
	for i, n := range slices.Sorted(slices.Values(wins)) {
		sum += n
		pairs += i
		if sum < pairs {
			return false, api.OK
		}
	}
	return sum == pairs, api.OK
}

// Make returns a table with these wins, and whether there is one.
func Make(wins []int) ([][]int, bool, api.Errno) {
	if ok, e := CanWin(wins); !ok {
		return nil, false, e
	}
	t := empty(len(wins))
	lacks := slices.Clone(wins) // the wins that a strip still needs
	var others []int            // the strips that are not yet compared with all
	for strip := range t {
		others = append(others, strip)
	}
	for len(others) > 0 {
		strip := others[0]
		others = others[1:]
		// The strip beats those that need the fewest wins. A table in which it beats x but not y, though y needs no more
		// wins than x, has a round of the strip, x, perhaps one more, and y: turned around, it changes no wins.
		slices.SortStableFunc(others, func(a, b int) int { return cmp.Compare(lacks[a], lacks[b]) })
		for i, other := range others {
			if i < lacks[strip] {
				t[strip][other] = 1
			} else {
				t[other][strip] = 1
				lacks[other]--
			}
		}
	}
	return t, true, api.OK
}

// validateWins returns ErrLarge if there cannot be so many wins, and ErrArg if a number cannot be one of wins.
func validateWins(wins []int) api.Errno {
	if !isCount(len(wins)) {
		return api.ErrLarge
	}
	for _, n := range wins {
		if n < 0 || n > api.MaxStrips {
			return api.ErrArg
		}
	}
	return api.OK
}
