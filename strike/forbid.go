package strike

import (
	"slices"

	"verditer/api"
)

// CheckForbid checks that weights forbid a strike.
func CheckForbid(s api.Strike, weights []int) api.Errno {
	l, e := Weigh(s, weights)
	if e != api.OK {
		return e
	}
	in, out := l[:len(s.In)], l[len(s.In):]
	if slices.Min(in) < 0 || slices.Max(out) > 0 {
		return api.ErrProof
	}
	if slices.Max(in) == 0 && slices.Min(out) == 0 {
		return api.ErrProof
	}
	return api.OK
}

// Forbid returns weights that forbid a strike, and whether there are such ones.
//
// An element whose line is a sum of multiples of those of other elements needs no weight: the others can have more or
// less instead. Without such elements only weights of 0 give all compounds the weight 0. Then all weights that forbid
// are sums of multiples of special ones that forbid: of those that are told, up to multiples, by the compounds to which
// they give the weight 0. So it is enough to try these.
func Forbid(s api.Strike) ([]int, bool, api.Errno) {
	if e := Validate(s); e != api.OK {
		return nil, false, e
	}
	compounds := compoundLines(s)
	_, independent := reduced(compounds)
	var without []line
	for element := range elementsOf(s) {
		if !slices.Contains(independent, element) {
			without = append(without, unit(element))
		}
	}
	for _, l := range directions(without, compounds, elementsOf(s)) {
		if weights := slices.Clone(l[:elementsOf(s)]); CheckForbid(s, weights) == api.OK {
			return weights, true, api.OK
		}
	}
	return nil, false, api.OK
}
