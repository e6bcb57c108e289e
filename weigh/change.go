package weigh

import (
	"slices"

	"verditer/api"
)

// Mirror exchanges the sides of the weighing k.
func Mirror(lots int, plan []api.Weighing, k int) ([]api.Weighing, api.Errno) {
	if e := validateNumber(lots, plan, k); e != api.OK {
		return nil, e
	}
	out := copied(plan)
	out[k].Left, out[k].Right = out[k].Right, out[k].Left
	return out, api.OK
}

// Rename gives each lot i the number to[i].
func Rename(lots int, plan []api.Weighing, to []int) ([]api.Weighing, api.Errno) {
	if e := Validate(lots, plan); e != api.OK {
		return nil, e
	}
	if len(to) != lots || !isSet(slices.Sorted(slices.Values(to)), lots) {
		return nil, api.ErrArg
	}
	renamed := make([]mark, lots)
	for lot, m := range marksOf(lots, plan) {
		renamed[to[lot]] = m
	}
	return planOf(renamed, len(plan)), api.OK
}

// Without leaves out the weighing k.
func Without(lots int, plan []api.Weighing, k int) ([]api.Weighing, api.Errno) {
	if e := validateNumber(lots, plan, k); e != api.OK {
		return nil, e
	}
	return slices.Delete(copied(plan), k, k+1), api.OK
}

// validateNumber is Validate, and ErrNone if there is no weighing k.
func validateNumber(lots int, plan []api.Weighing, k int) api.Errno {
	if e := Validate(lots, plan); e != api.OK {
		return e
	}
	if k < 0 || k >= len(plan) {
		return api.ErrNone
	}
	return api.OK
}

// copied returns a plan in new memory.
func copied(plan []api.Weighing) []api.Weighing {
	var out []api.Weighing
	for _, w := range plan {
		out = append(out, api.Weighing{Left: slices.Clone(w.Left), Right: slices.Clone(w.Right)})
	}
	return out
}
