package wash

import (
	"slices"

	"verditer/api"
)

// IsFiner reports whether the lot l is finer than m.
func IsFiner(l, m []api.Grain) (bool, api.Errno) {
	if e := validateFit(l, m); e != api.OK {
		return false, e
	}
	fine, coarse := bySize(l), bySize(m)
	ahead := 0
	for size := range fine {
		ahead += fine[size] - coarse[size]
		if ahead < 0 {
			return false, api.OK
		}
	}
	return true, api.OK
}

// Grind does moves, one after another.
func Grind(l []api.Grain, moves []api.Move) ([]api.Grain, api.Errno) {
	if e := Validate(l); e != api.OK {
		return nil, e
	}
	if e := validateMoves(moves); e != api.OK {
		return nil, e
	}
	all := bySize(l)
	for _, m := range moves {
		if all[m.From] < m.Mass {
			return nil, api.ErrShort
		}
		all[m.From] -= m.Mass
		all[m.To] += m.Mass
	}
	return all.lot()
}

// CheckFiner checks that moves grind m to l.
func CheckFiner(l, m []api.Grain, moves []api.Move) api.Errno {
	if e := validateFit(l, m); e != api.OK {
		return e
	}
	ground, e := Grind(m, moves)
	if e != api.OK {
		return e
	}
	if !slices.Equal(ground, l) {
		return api.ErrProof
	}
	return api.OK
}

// Moves returns moves that grind m to l, and whether there are such ones.
func Moves(l, m []api.Grain) ([]api.Move, bool, api.Errno) {
	finer, e := IsFiner(l, m)
	if !finer {
		return nil, false, e
	}
	return movesTo(l, m), true, api.OK
}

// Work returns the smallest work of grinding m to l, and whether it can be done.
func Work(l, m []api.Grain) (int, bool, api.Errno) {
	finer, e := IsFiner(l, m)
	if !finer {
		return 0, false, e
	}
	// Each move lowers the sum of sizes times masses by its own work, so any moves have the same sum.
	return momentOf(m) - momentOf(l), true, api.OK
}

// validateFit is validateBoth, and ErrFit if the masses differ.
func validateFit(l, m []api.Grain) api.Errno {
	if e := validateBoth(l, m); e != api.OK {
		return e
	}
	if massOf(l) != massOf(m) {
		return api.ErrFit
	}
	return api.OK
}

// validateMoves tells whether these are moves.
func validateMoves(moves []api.Move) api.Errno {
	if len(moves) > api.MaxMoves {
		return api.ErrLarge
	}
	for _, m := range moves {
		if m.To < 1 || m.From <= m.To || m.From > api.MaxSize || m.Mass < 1 || m.Mass > api.MaxMass {
			return api.ErrArg
		}
	}
	return api.OK
}

// movesTo returns moves that grind m to the finer lot l: the finest of m becomes the finest of l, and so on.
// So no move goes up, and as each one uses up a grain of l or of m, they are below 2 * MaxGrains.
func movesTo(l, m []api.Grain) []api.Move {
	to, from := copyLot(l), copyLot(m)
	var moves []api.Move
	for len(to) > 0 && len(from) > 0 {
		mass := min(to[0].Mass, from[0].Mass)
		if from[0].Size > to[0].Size {
			moves = append(moves, api.Move{From: from[0].Size, To: to[0].Size, Mass: mass})
		}
		to, from = without(to, mass), without(from, mass)
	}
	return moves
}

// without takes a mass from the first grain of a lot, in place, and drops that grain when nothing is left of it.
func without(l []api.Grain, mass int) []api.Grain {
	l[0].Mass -= mass
	if l[0].Mass == 0 {
		return l[1:]
	}
	return l
}
