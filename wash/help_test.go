package wash_test

import (
	"slices"
	"testing"

	"verditer/api"
	"verditer/wash"
)

func rat(num, den int) api.Rat { return api.Rat{Num: num, Den: den} }

func whole(n int) api.Rat { return rat(n, 1) }

// lot makes a lot of pairs of a size and a mass.
func lot(pairs ...int) []api.Grain {
	var l []api.Grain
	for i := 0; i < len(pairs); i += 2 {
		l = append(l, api.Grain{Size: pairs[i], Mass: pairs[i+1]})
	}
	return l
}

func move(from, to, mass int) api.Move { return api.Move{From: from, To: to, Mass: mass} }

func reduced(num, den int) api.Rat {
	a, b := den, num
	for b != 0 {
		a, b = b, a%b
	}
	return rat(num/a, den/a)
}

func plus(a, b api.Rat) api.Rat { return reduced(a.Num*b.Den+b.Num*a.Den, a.Den*b.Den) }

func isValid(r api.Rat) bool { return r.Den > 0 && r == reduced(r.Num, r.Den) }

// badLots has lots that are none, with the error of Validate.
func badLots() map[api.Errno][][]api.Grain {
	return map[api.Errno][][]api.Grain{
		api.ErrLarge: {
			lot(1, 1, 2, 1, 3, 1, 4, 1, 5, 1, 6, 1, 7, 1),
			make([]api.Grain, api.MaxGrains+1),
		},
		api.ErrArg: {
			lot(0, 1), lot(-1, 1), lot(api.MaxSize+1, 1),
			lot(1, 0), lot(1, -1), lot(1, api.MaxMass+1),
			lot(2, 1, 2, 1), lot(2, 1, 1, 1), lot(1, 1, 2, 2, 3, 0),
		},
	}
}

// someLots has lots of many kinds: none, the smallest, the largest, and some of each number of grains.
func someLots() [][]api.Grain {
	lots := [][]api.Grain{
		nil, lot(1, 1), lot(20, 100), lot(1, 2, 5, 4), lot(1, 2, 5, 2),
		lot(1, 100, 2, 100, 3, 100, 18, 100, 19, 100, 20, 100),
	}
	next := numbers()
	for grains := 1; grains <= api.MaxGrains; grains++ {
		for range 20 {
			masses := map[int]int{}
			for len(masses) < grains {
				masses[1+next(api.MaxSize)] = 1 + next(api.MaxMass)
			}
			lots = append(lots, lotOf(masses))
		}
	}
	return lots
}

// numbers returns a source of numbers below n, the same ones in each run.
func numbers() func(n int) int {
	seed := 1
	return func(n int) int {
		seed = (seed*1103515245 + 12345) % (1 << 31)
		return (seed >> 8) % n
	}
}

// equalLots has lots of one mass, with many grains each.
func equalLots() [][]api.Grain {
	var lots [][]api.Grain
	next := numbers()
	for range 60 {
		var sizes [api.MaxGrains]int
		for i := range sizes {
			sizes[i] = 1 + next(api.MaxSize)
		}
		masses := map[int]int{}
		for range 60 {
			masses[sizes[next(len(sizes))]]++
		}
		lots = append(lots, lotOf(masses))
	}
	return lots
}

// lotOf makes a lot of the masses of sizes.
func lotOf(masses map[int]int) []api.Grain {
	var l []api.Grain
	for size := 1; size <= api.MaxSize; size++ {
		if masses[size] > 0 {
			l = append(l, api.Grain{Size: size, Mass: masses[size]})
		}
	}
	return l
}

// lotsOf returns all lots of a mass with sizes from 1 to most.
func lotsOf(mass, most int) [][]api.Grain {
	if most == 0 {
		if mass == 0 {
			return [][]api.Grain{nil}
		}
		return nil
	}
	var out [][]api.Grain
	for n := 0; n <= mass; n++ {
		for _, l := range lotsOf(mass-n, most-1) {
			if n > 0 {
				l = append(slices.Clone(l), api.Grain{Size: most, Mass: n})
			}
			out = append(out, l)
		}
	}
	return out
}

func massOf(t *testing.T, l []api.Grain) int {
	t.Helper()
	n, e := wash.Mass(l)
	if e != api.OK {
		t.Fatal(l, e)
	}
	return n
}

func below(t *testing.T, l []api.Grain, size int) int {
	t.Helper()
	n, e := wash.Below(l, size)
	if e != api.OK {
		t.Fatal(l, e)
	}
	return n
}
