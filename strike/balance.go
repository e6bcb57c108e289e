package strike

import (
	"slices"

	"verditer/api"
)

// Space returns how many lists of rational times that balance there are, none of which follows from the others.
func Space(s api.Strike) (int, api.Errno) {
	if e := Validate(s); e != api.OK {
		return 0, e
	}
	return len(compoundsOf(s)) - rank(elementLines(s)), api.OK
}

// Simple returns the balance without a common divisor, and whether all times that balance are multiples of a balance.
func Simple(s api.Strike) ([]int, bool, api.Errno) {
	if e := Validate(s); e != api.OK {
		return nil, false, e
	}
	compounds := len(compoundsOf(s))
	for _, l := range directions(elementLines(s), nil, compounds) {
		if times := slices.Clone(l[:compounds]); slices.Min(times) > 0 {
			return times, true, api.OK
		}
	}
	return nil, false, api.OK
}

// CanBalance reports whether there is a balance.
func CanBalance(s api.Strike) (bool, api.Errno) {
	_, ok, e := Balance(s)
	return ok, e
}

// Balance returns a balance, and whether there is one.
func Balance(s api.Strike) ([]int, bool, api.Errno) {
	if e := Validate(s); e != api.OK {
		return nil, false, e
	}
	parts := partBalances(s)
	times := make([]int, len(compoundsOf(s)))
	for i := range times {
		if times[i] > 0 {
			continue
		}
		at := slices.IndexFunc(parts, func(l line) bool { return l[i] > 0 })
		if at < 0 {
			return nil, false, api.OK
		}
		for j := range times {
			times[j] += parts[at][j] // at most six times at most 19683: this is below MaxCoef
		}
	}
	return times, true, api.OK
}

// partBalances returns times of 0 and above that balance: for each choice of compounds that are left out, those times
// of which all others without these compounds are multiples. Any balance is a sum of multiples of such times, so if
// there is one, each compound has a number above 0 in some of them.
func partBalances(s api.Strike) []line {
	compounds := len(compoundsOf(s))
	var leftOut []line
	for i := range compounds {
		leftOut = append(leftOut, unit(i))
	}
	all := directions(elementLines(s), leftOut, compounds)
	return slices.DeleteFunc(all, func(l line) bool { return slices.Min(l[:]) < 0 })
}
