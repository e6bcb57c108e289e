package wash

import "verditer/api"

// maxPots is how many pots there may be one after another.
const maxPots = 3

// above is what is left above in a pot.
type above struct {
	left api.Rat
}

// sink takes a part away from what is left, and returns how much that is.
func (a *above) sink(part api.Rat) api.Rat {
	sunk := product(a.left, part)
	// Multiplied, not subtracted: so the numbers stay small.
	a.left = product(a.left, oneMinus(part))
	return sunk
}

// afloat is the grains of a size in a pot, with what is left of them.
type afloat struct {
	size int
	above
}

// Part returns the part of the grains of a size that sinks in a time.
func Part(size, time, depth int) (api.Rat, api.Errno) {
	if size < 1 || size > api.MaxSize || !isTime(time) || !isDepth(depth) {
		return api.Rat{}, api.ErrArg
	}
	return partOf(size, time, depth), api.OK
}

// Settle returns, for each grain, the mass that sinks, and the mass that stays above.
func Settle(l []api.Grain, time, depth int) ([]api.Rat, []api.Rat, api.Errno) {
	if e := Validate(l); e != api.OK {
		return nil, nil, e
	}
	if !isTime(time) || !isDepth(depth) {
		return nil, nil, api.ErrArg
	}
	pot := pour(l)
	sunk := settle(pot, time, depth)
	return sunk, leftIn(pot), api.OK
}

// Wash returns, for each grain, what is left above after so many equal settlings.
func Wash(l []api.Grain, time, depth, times int) ([]api.Rat, api.Errno) {
	if e := Validate(l); e != api.OK {
		return nil, e
	}
	if !isTime(time) || !isDepth(depth) || times < 1 || times > api.MaxTimes {
		return nil, api.ErrArg
	}
	pot := pour(l)
	for range times {
		settle(pot, time, depth)
	}
	return leftIn(pot), api.OK
}

// Pots returns the masses that sink in one pot after another, and last what stays above in the last one.
func Pots(l []api.Grain, times []int, depth int) ([][]api.Rat, api.Errno) {
	if e := validatePots(l, times, depth); e != api.OK {
		return nil, e
	}
	pot := pour(l)
	var out [][]api.Rat
	for _, time := range times {
		out = append(out, settle(pot, time, depth))
	}
	return append(out, leftIn(pot)), api.OK
}

// validatePots returns the errors of Pots.
func validatePots(l []api.Grain, times []int, depth int) api.Errno {
	if e := Validate(l); e != api.OK {
		return e
	}
	if len(times) > maxPots {
		return api.ErrLarge
	}
	for _, time := range times {
		if !isTime(time) {
			return api.ErrArg
		}
	}
	if !isDepth(depth) {
		return api.ErrArg
	}
	return api.OK
}

// Time returns the smallest time in which at least num/den of the mass sinks.
func Time(l []api.Grain, depth, num, den int) (int, api.Errno) {
	if e := Validate(l); e != api.OK {
		return 0, e
	}
	if !isDepth(depth) || den < 1 || den > 100 || num < 0 || num > den {
		return 0, api.ErrArg
	}
	time := 0
	for sunkTimesDepth(l, time, depth)*den < massOf(l)*depth*num {
		time++ // ends: as depths are at most MaxTime, all has sunk by then
	}
	return time, api.OK
}

// sunkTimesDepth returns the mass that sinks, times the depth, which makes it a whole number.
func sunkTimesDepth(l []api.Grain, time, depth int) int {
	sum := 0
	for _, g := range l {
		sum += g.Mass * min(depth, g.Size*time)
	}
	return sum
}

// isTime reports whether a settling may have this time.
func isTime(time int) bool {
	return time >= 0 && time <= api.MaxTime
}

// isDepth reports whether a pot may have this depth.
func isDepth(depth int) bool {
	return depth >= 1 && depth <= api.MaxDepth
}

// partOf is Part of arguments without an error.
func partOf(size, time, depth int) api.Rat {
	return lowest(min(depth, size*time), depth)
}

// pour returns a pot in which all of a lot is above.
func pour(l []api.Grain) []afloat {
	pot := make([]afloat, len(l))
	for i, g := range l {
		pot[i].size = g.Size
		pot[i].left = api.Rat{Num: g.Mass, Den: 1}
	}
	return pot
}

// settle lets the grains settle once, and returns the mass that sinks of each.
func settle(pot []afloat, time, depth int) []api.Rat {
	sunk := make([]api.Rat, len(pot))
	for i := range pot {
		sunk[i] = pot[i].sink(partOf(pot[i].size, time, depth))
	}
	return sunk
}

// leftIn returns what is left above in a pot of each grain.
func leftIn(pot []afloat) []api.Rat {
	out := make([]api.Rat, len(pot))
	for i, a := range pot {
		out[i] = a.left
	}
	return out
}
