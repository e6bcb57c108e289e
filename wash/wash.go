// Package wash is layer 1: lots of grains that settle in water, and which of them are finer.
package wash

import "verditer/api"

// Validate tells whether l is a lot.
func Validate(l []api.Grain) api.Errno {
	if len(l) > api.MaxGrains {
		return api.ErrLarge
	}
	last := 0
	for _, g := range l {
		if g.Size <= last || g.Size > api.MaxSize || g.Mass < 1 || g.Mass > api.MaxMass {
			return api.ErrArg
		}
		last = g.Size
	}
	return api.OK
}

// Mass returns the mass of a lot.
func Mass(l []api.Grain) (int, api.Errno) {
	if e := Validate(l); e != api.OK {
		return 0, e
	}
	return massOf(l), api.OK
}

// Below returns the mass of the grains of at most a size.
func Below(l []api.Grain, size int) (int, api.Errno) {
	if e := Validate(l); e != api.OK {
		return 0, e
	}
	return massOf(l[:upTo(l, size)]), api.OK
}

// Sieve returns the lot of the grains of at most a size, and that of the others.
func Sieve(l []api.Grain, size int) ([]api.Grain, []api.Grain, api.Errno) {
	if e := Validate(l); e != api.OK {
		return nil, nil, e
	}
	n := upTo(l, size)
	return copyLot(l[:n]), copyLot(l[n:]), api.OK
}

// Mean returns the mean size of a lot, by mass.
func Mean(l []api.Grain) (api.Rat, api.Errno) {
	if e := Validate(l); e != api.OK {
		return api.Rat{}, e
	}
	if len(l) == 0 {
		return api.Rat{}, api.ErrNone
	}
	return lowest(momentOf(l), massOf(l)), api.OK
}

// Middle returns the smallest size of a grain up to which there is at least the half of the mass.
func Middle(l []api.Grain) (int, api.Errno) {
	if e := Validate(l); e != api.OK {
		return 0, e
	}
	mass, below := massOf(l), 0
	for _, g := range l {
		below += g.Mass
		if 2*below >= mass {
			return g.Size, api.OK
		}
	}
	return 0, api.ErrNone // an empty lot: any other one has its whole mass up to its last grain
}

// Join returns the lot with the grains of both lots.
func Join(l, m []api.Grain) ([]api.Grain, api.Errno) {
	if e := validateBoth(l, m); e != api.OK {
		return nil, e
	}
	all := bySize(l)
	for _, g := range m {
		all[g.Size] += g.Mass
	}
	return all.lot()
}

// validateBoth is Validate of one lot and then of another one.
func validateBoth(l, m []api.Grain) api.Errno {
	if e := Validate(l); e != api.OK {
		return e
	}
	return Validate(m)
}

// massOf returns the sum of the masses.
func massOf(l []api.Grain) int {
	sum := 0
	for _, g := range l {
		sum += g.Mass
	}
	return sum
}

// momentOf returns the sum of the sizes times the masses.
func momentOf(l []api.Grain) int {
	sum := 0
	for _, g := range l {
		sum += g.Size * g.Mass
	}
	return sum
}

// upTo returns how many of the grains have at most a size.
func upTo(l []api.Grain, size int) int {
	n := 0
	for n < len(l) && l[n].Size <= size {
		n++
	}
	return n
}

// copyLot returns the lot in new memory.
func copyLot(l []api.Grain) []api.Grain {
	out := make([]api.Grain, len(l))
	copy(out, l)
	return out
}

// masses is the mass of each size; unlike a lot, it may hold any mass of any number of sizes.
type masses [api.MaxSize + 1]int

// bySize returns the masses of a lot.
func bySize(l []api.Grain) masses {
	var all masses
	for _, g := range l {
		all[g.Size] += g.Mass
	}
	return all
}

// lot returns the masses as a lot, or the error of Validate if they are none.
func (all masses) lot() ([]api.Grain, api.Errno) {
	var l []api.Grain
	for size, mass := range all {
		if mass != 0 {
			l = append(l, api.Grain{Size: size, Mass: mass})
		}
	}
	if e := Validate(l); e != api.OK {
		return nil, e
	}
	return l, api.OK
}
