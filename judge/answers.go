package judge

import (
	"slices"

	"verditer/api"
)

// Turn returns the answers with the other grades named, and yes and no exchanged.
func Turn(l []api.Answer, grades int) ([]api.Answer, api.Errno) {
	if e := Validate(grades, l); e != api.OK {
		return nil, e
	}
	out := make([]api.Answer, len(l))
	for i, a := range l {
		out[i] = api.Answer{Named: others(a.Named, grades), Yes: !a.Yes}
	}
	return out, api.OK
}

// Without returns the answers without the answer k.
func Without(grades int, l []api.Answer, k int) ([]api.Answer, api.Errno) {
	if e := Validate(grades, l); e != api.OK {
		return nil, e
	}
	if k < 0 || k >= len(l) {
		return nil, api.ErrNone
	}
	var out []api.Answer
	for i, a := range l {
		if i != k {
			out = append(out, api.Answer{Named: slices.Clone(a.Named), Yes: a.Yes})
		}
	}
	return out, api.OK
}

// Rename returns the answers with to[g] named in place of each grade g.
func Rename(grades int, l []api.Answer, to []int) ([]api.Answer, api.Errno) {
	if e := Validate(grades, l); e != api.OK {
		return nil, e
	}
	if !hasEachOnce(to, grades) {
		return nil, api.ErrArg
	}
	out := make([]api.Answer, len(l))
	for i, a := range l {
		out[i] = api.Answer{Named: renamed(a.Named, to), Yes: a.Yes}
	}
	return out, api.OK
}

// others returns the grades that are not named.
func others(named []int, grades int) []int {
	var out []int
	for g := range grades {
		if !slices.Contains(named, g) {
			out = append(out, g)
		}
	}
	return out
}

// hasEachOnce reports whether to has each grade once.
func hasEachOnce(to []int, grades int) bool {
	if len(to) != grades {
		return false
	}
	for g := range grades {
		if !slices.Contains(to, g) {
			return false
		}
	}
	return true
}

// renamed returns the set of the new numbers of the named grades.
func renamed(named, to []int) []int {
	out := make([]int, len(named))
	for i, g := range named {
		out[i] = to[g]
	}
	slices.Sort(out)
	return out
}
