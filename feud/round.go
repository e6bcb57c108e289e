package feud

import (
	"slices"

	"verditer/api"
)

// CheckRound checks that a list of paints is a round.
func CheckRound(s api.Shop, round []int) api.Errno {
	if e := Validate(s); e != api.OK {
		return e
	}
	if len(round) < 3 || !areDifferent(s, round) {
		return api.ErrArg
	}
	in := shopOf(s)
	last := round[len(round)-1]
	for _, paint := range round {
		if !in.has(last, paint) {
			return api.ErrProof
		}
		last = paint
	}
	return api.OK
}

// Odd returns a round of an odd number of paints, and whether there is one.
func Odd(s api.Shop) ([]int, bool, api.Errno) {
	if e := Validate(s); e != api.OK {
		return nil, false, e
	}
	in := shopOf(s)
	for paint := range s.Paints {
		if round := in.odd([]int{paint}); len(round) > 0 {
			return round, true, api.OK
		}
	}
	return nil, false, api.OK
}

// odd returns a round of an odd number of paints that begins with a path, or an empty list.
func (in shop) odd(path []int) []int {
	last := path[len(path)-1]
	if len(path)%2 == 1 && in.has(path[0], last) { // a paint alone has no feud with itself
		return path
	}
	for _, foe := range in.foes(last) {
		if slices.Contains(path, foe) {
			continue
		}
		if round := in.odd(append(slices.Clone(path), foe)); len(round) > 0 {
			return round
		}
	}
	return nil
}
