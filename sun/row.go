package sun

import (
	"slices"

	"verditer/api"
)

// CheckRow checks that each strip of a row beats the next one.
func CheckRow(t [][]int, row []int) api.Errno {
	if e := validateOrder(t, row); e != api.OK {
		return e
	}
	if !table(t).isPath(row) {
		return api.ErrProof
	}
	return api.OK
}

// Row returns a row that CheckRow accepts.
func Row(t [][]int) ([]int, api.Errno) {
	if e := Validate(t); e != api.OK {
		return nil, e
	}
	in := table(t)
	row, _ := in.path(nil, len(t), in.isPath) // there always is one
	return row, api.OK
}

// CheckRound checks that each strip of a round beats the next one, and the last one the first one.
func CheckRound(t [][]int, round []int) api.Errno {
	if e := Validate(t); e != api.OK {
		return e
	}
	in := table(t)
	if len(round) < 3 || !in.areDifferent(round) {
		return api.ErrArg
	}
	if !in.isRound(round) {
		return api.ErrProof
	}
	return api.OK
}

// Round returns a round of so many strips, with a strip among them, and whether there is one.
func Round(t [][]int, strip, length int) ([]int, bool, api.Errno) {
	if e := validateStrips(t, strip); e != api.OK {
		return nil, false, e
	}
	if length < 3 || length > api.MaxStrips {
		return nil, false, api.ErrArg
	}
	in := table(t)
	round, ok := in.path([]int{strip}, length, in.isRound)
	return round, ok, api.OK
}

// validateOrder is Validate, and ErrArg if an order does not have each strip once.
func validateOrder(t [][]int, order []int) api.Errno {
	if e := Validate(t); e != api.OK {
		return e
	}
	if !table(t).isOrder(order) {
		return api.ErrArg
	}
	return api.OK
}

// validateStrips is Validate, and ErrNone if one of the numbers is not that of a strip.
func validateStrips(t [][]int, strips ...int) api.Errno {
	if e := Validate(t); e != api.OK {
		return e
	}
	for _, strip := range strips {
		if !table(t).has(strip) {
			return api.ErrNone
		}
	}
	return api.OK
}

// path returns the first list, in ascending order, of so many different strips that begins with start, in which each
// strip beats the next one, and which is good; and whether there is one.
func (t table) path(start []int, length int, isGood func(l []int) bool) ([]int, bool) {
	var found []int
	var grow func(l []int) bool
	grow = func(l []int) bool {
		if len(l) == length {
			found = l
			return isGood(l)
		}
		for strip := range t.others(l) {
			longer := append(slices.Clone(l), strip)
			if t.isPath(longer) && grow(longer) {
				return true
			}
		}
		return false
	}
	if !grow(start) {
		return nil, false
	}
	return found, true
}
