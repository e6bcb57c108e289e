package secret

import (
	"slices"

	"verditer/api"
)

// LieOn reports whether the parts lie on a curve with so many numbers.
func LieOn(l []api.Part, need int) (bool, api.Errno) {
	if e := validateAnd(l, isNeed(need)); e != api.OK {
		return false, e
	}
	return lieOn(l, need), api.OK
}

// Wrong returns the place of the part without which the others lie on a curve with so many numbers, and whether there is
// such a part and not all lie on one.
func Wrong(l []api.Part, need int) (int, bool, api.Errno) {
	if e := validateAnd(l, isNeed(need)); e != api.OK {
		return 0, false, e
	}
	if len(l) < need+2 {
		return 0, false, api.ErrShort
	}
	if lieOn(l, need) {
		return 0, false, api.OK
	}
	// There are no two such places: the curves of the others would have as many parts in common as they have numbers, so
	// they would be the same, and all parts would lie on it.
	for place := range l {
		if lieOn(cut(l, place), need) {
			return place, true, api.OK
		}
	}
	return 0, false, api.OK
}

// Repair returns the parts with the wrong one, if there is one, put right, and whether all of these lie on a curve with
// so many numbers.
func Repair(l []api.Part, need int) ([]api.Part, bool, api.Errno) {
	place, wrong, e := Wrong(l, need)
	if e != api.OK {
		return nil, false, e
	}
	out := slices.Clone(l)
	if wrong {
		others := sharesOf(cut(l, place))
		out[place] = through(others[:need]).part(l[place].X)
	}
	if !lieOn(out, need) {
		return nil, false, api.OK
	}
	return out, true, api.OK
}

// Without returns the parts without the one with the X x.
func Without(l []api.Part, x int) ([]api.Part, api.Errno) {
	if e := validateAnd(l, isX(x)); e != api.OK {
		return nil, e
	}
	for place, p := range l {
		if p.X == x {
			return cut(l, place), api.OK
		}
	}
	return nil, api.ErrNone
}

// lieOn reports whether the parts lie on a curve with so many numbers: on the one that the first of them tell.
func lieOn(l []api.Part, need int) bool {
	if len(l) <= need {
		return true
	}
	curve := through(sharesOf(l[:need]))
	for _, p := range l[need:] {
		if curve.at(p.X) != p.Y {
			return false
		}
	}
	return true
}

// cut returns the parts without the one at a place.
func cut(l []api.Part, place int) []api.Part {
	return slices.Concat(l[:place], l[place+1:])
}
