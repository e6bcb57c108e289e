package strike

import (
	"slices"

	"verditer/api"
)

// Turn exchanges In and Out.
func Turn(s api.Strike) (api.Strike, api.Errno) {
	if e := Validate(s); e != api.OK {
		return api.Strike{}, e
	}
	return api.Strike{In: copied(s.Out), Out: copied(s.In)}, api.OK
}

// Join returns the strike with the compounds of s and then of t on each side.
func Join(s, t api.Strike) (api.Strike, api.Errno) {
	if e := Validate(s); e != api.OK {
		return api.Strike{}, e
	}
	if e := Validate(t); e != api.OK {
		return api.Strike{}, e
	}
	if elementsOf(s) != elementsOf(t) {
		return api.Strike{}, api.ErrFit
	}
	in, out := slices.Concat(s.In, t.In), slices.Concat(s.Out, t.Out)
	if !isSide(in) || !isSide(out) {
		return api.Strike{}, api.ErrLarge
	}
	return api.Strike{In: copied(in), Out: copied(out)}, api.OK
}

// Without returns the strike without an element.
func Without(s api.Strike, element int) (api.Strike, api.Errno) {
	if e := Validate(s); e != api.OK {
		return api.Strike{}, e
	}
	if element < 0 || element >= elementsOf(s) {
		return api.Strike{}, api.ErrNone
	}
	out := api.Strike{In: without(s.In, element), Out: without(s.Out, element)}
	if e := Validate(out); e != api.OK { // no element is left, or a compound without an atom
		return api.Strike{}, e
	}
	return out, api.OK
}

// Needless returns the elements that are balanced whenever all others are.
func Needless(s api.Strike) ([]int, api.Errno) {
	if e := Validate(s); e != api.OK {
		return nil, e
	}
	lines := elementLines(s)
	var set []int
	for element := range lines {
		others := slices.Delete(slices.Clone(lines), element, element+1)
		if rank(others) == rank(lines) {
			set = append(set, element)
		}
	}
	return set, api.OK
}

// copied returns the compounds of a side in new memory.
func copied(side [][]int) [][]int {
	var out [][]int
	for _, c := range side {
		out = append(out, slices.Clone(c))
	}
	return out
}

// without returns the compounds of a side without an element, in new memory.
func without(side [][]int, element int) [][]int {
	out := copied(side)
	for i, c := range out {
		out[i] = slices.Delete(c, element, element+1)
	}
	return out
}
