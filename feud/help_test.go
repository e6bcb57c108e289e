package feud_test

import (
	"math"
	"slices"
	"testing"

	"verditer/api"
	"verditer/feud"
)

// shop returns a shop with feuds of such pairs.
func shop(paints int, pairs ...[2]int) api.Shop {
	s := api.Shop{Paints: paints}
	for _, p := range pairs {
		s.Feuds = append(s.Feuds, api.Feud{A: p[0], B: p[1]})
	}
	return s
}

// ring returns a shop in which the first paints are a round, and the others have no feud.
func ring(paints, round int) api.Shop {
	s := shop(paints, [2]int{0, round - 1})
	for a := range round - 1 {
		s.Feuds = append(s.Feuds, api.Feud{A: a, B: a + 1})
	}
	return s
}

// all returns a shop in which each paint has a feud with each.
func all(paints int) api.Shop {
	return shop(paints, pairsOf(paints)...)
}

// pairsOf returns all pairs of paints in ascending order.
func pairsOf(paints int) [][2]int {
	var pairs [][2]int
	for a := range paints {
		for b := a + 1; b < paints; b++ {
			pairs = append(pairs, [2]int{a, b})
		}
	}
	return pairs
}

// sides returns a shop in which the paints below n have a feud with all others, and there is no other feud.
func sides(paints, n int) api.Shop {
	s := shop(paints)
	for _, p := range pairsOf(paints) {
		if p[0] < n && p[1] >= n {
			s.Feuds = append(s.Feuds, api.Feud{A: p[0], B: p[1]})
		}
	}
	return s
}

// smallShops has each shop with at most so many paints once; the order of the feuds is not always ascending.
func smallShops(most int) []api.Shop {
	var shops []api.Shop
	next := numbers()
	for paints := 1; paints <= most; paints++ {
		pairs := pairsOf(paints)
		for chosen := range 1 << len(pairs) {
			s := shop(paints)
			for i, p := range pairs {
				if chosen>>i&1 == 1 {
					s.Feuds = append(s.Feuds, api.Feud{A: p[0], B: p[1]})
				}
			}
			mix(s, next)
			shops = append(shops, s)
		}
	}
	return shops
}

// largeShops has some shops with 6 and 7 paints.
func largeShops() []api.Shop {
	shops := []api.Shop{shop(6), shop(7), all(6), all(7), ring(6, 6), ring(7, 7), ring(7, 6), ring(7, 5), sides(7, 3), sides(7, 1), sides(6, 3)}
	next := numbers()
	for paints := 6; paints <= 7; paints++ {
		for density := 1; density < 8; density++ {
			for range 4 {
				s := shop(paints)
				for _, p := range pairsOf(paints) {
					if next(8) < density {
						s.Feuds = append(s.Feuds, api.Feud{A: p[0], B: p[1]})
					}
				}
				mix(s, next)
				shops = append(shops, s)
			}
		}
	}
	return shops
}

// someShops has small and large shops.
func someShops() []api.Shop {
	return append(smallShops(5), largeShops()...)
}

// mix changes the order of the feuds.
func mix(s api.Shop, next func(n int) int) {
	for i := range s.Feuds {
		j := next(i + 1)
		s.Feuds[i], s.Feuds[j] = s.Feuds[j], s.Feuds[i]
	}
}

// numbers returns a source of numbers below n, the same ones in each run.
func numbers() func(n int) int {
	seed := 1
	return func(n int) int {
		seed = (seed*1103515245 + 12345) % (1 << 31)
		return (seed >> 8) % n
	}
}

// badShop is a shop that is none, with the error of Validate.
type badShop struct {
	s    api.Shop
	want api.Errno
}

// badShops has shops that are none; where two errors apply, the first one counts.
func badShops() []badShop {
	twice := [2]int{0, 1}
	return []badShop{
		{shop(0), api.ErrArg}, {shop(-1), api.ErrArg}, {shop(8), api.ErrArg}, {shop(math.MinInt), api.ErrArg}, {shop(math.MaxInt), api.ErrArg},
		{shop(8, twice, twice), api.ErrArg},
		{shop(0, twice), api.ErrArg},
		{shop(2, [2]int{1, 0}), api.ErrArg},
		{shop(2, [2]int{0, 0}), api.ErrArg},
		{shop(1, [2]int{0, 1}), api.ErrArg},
		{shop(2, [2]int{0, 2}), api.ErrArg},
		{shop(2, [2]int{2, 3}), api.ErrArg},
		{shop(7, [2]int{6, 7}), api.ErrArg},
		{shop(2, [2]int{-1, 0}), api.ErrArg},
		{shop(2, [2]int{-2, -1}), api.ErrArg},
		{shop(2, [2]int{math.MinInt, 1}), api.ErrArg},
		{shop(2, [2]int{0, math.MaxInt}), api.ErrArg},
		{shop(2, twice, [2]int{0, 2}), api.ErrArg},
		{shop(2, twice, twice, [2]int{1, 0}), api.ErrArg},
		{shop(2, twice, twice), api.ErrTwice},
		{shop(3, twice, [2]int{1, 2}, twice), api.ErrTwice},
		{shop(7, [2]int{5, 6}, twice, [2]int{5, 6}), api.ErrTwice},
	}
}

// isFeud reports whether two paints have a feud, as the document words it.
func isFeud(s api.Shop, a, b int) bool {
	for _, f := range s.Feuds {
		if f.A == a && f.B == b || f.A == b && f.B == a {
			return true
		}
	}
	return false
}

// foesOf returns the paints with which a paint has a feud.
func foesOf(s api.Shop, paint int) []int {
	var foes []int
	for other := range s.Paints {
		if isFeud(s, paint, other) {
			foes = append(foes, other)
		}
	}
	return foes
}

// feudsIn counts the feuds of two paints of a set.
func feudsIn(s api.Shop, set []int) int {
	n := 0
	for _, f := range s.Feuds {
		if slices.Contains(set, f.A) && slices.Contains(set, f.B) {
			n++
		}
	}
	return n
}

// isCalm reports whether no two paints of a set have a feud, isBitter whether any two have one.
func isCalm(s api.Shop, set []int) bool   { return feudsIn(s, set) == 0 }
func isBitter(s api.Shop, set []int) bool { return feudsIn(s, set) == len(set)*(len(set)-1)/2 }

// setsOf returns all sets of paints.
func setsOf(paints int) [][]int {
	var sets [][]int
	for chosen := range 1 << paints {
		var set []int
		for paint := range paints {
			if chosen>>paint&1 == 1 {
				set = append(set, paint)
			}
		}
		sets = append(sets, set)
	}
	return sets
}

// firstGreatest returns the first one in ascending order of the greatest sets that are good.
func firstGreatest(sets [][]int, isGood func(set []int) bool) []int {
	var best []int
	for _, set := range sets {
		larger := len(set) > len(best) || len(set) == len(best) && slices.Compare(set, best) < 0
		if isGood(set) && larger {
			best = set
		}
	}
	return best
}

// isShelving reports whether l, with numbers that are shelves, has no feud on a shelf.
func isShelving(s api.Shop, l []int) bool {
	for _, f := range s.Feuds {
		if l[f.A] == l[f.B] {
			return false
		}
	}
	return true
}

// countOf counts the shelvings with so many shelves by trying all lists.
func countOf(s api.Shop, shelves int) int {
	count := 0
	eachList(s.Paints, shelves, func(l []int) {
		if isShelving(s, l) {
			count++
		}
	})
	return count
}

// eachList calls f with each list of n numbers from 0 to below - 1; the memory is the same for all of them.
func eachList(n, below int, f func(l []int)) {
	l := make([]int, n)
	for {
		f(l)
		i := 0
		for i < n && l[i] == below-1 {
			l[i] = 0
			i++
		}
		if i == n {
			return
		}
		l[i]++
	}
}

// eachOrder calls f with each order of the paints.
func eachOrder(paints int, f func(order []int)) {
	var place func(order []int)
	place = func(order []int) {
		if len(order) == paints {
			f(order)
		}
		for paint := range paints {
			if !slices.Contains(order, paint) {
				place(append(slices.Clone(order), paint))
			}
		}
	}
	place(nil)
}

// ascending returns the shop with its feuds in ascending order.
func ascending(s api.Shop) api.Shop {
	return shopWhere(s.Paints, func(a, b int) bool { return isFeud(s, a, b) })
}

// shopWhere returns the shop in which just the paints a and b have a feud for which has is true.
func shopWhere(paints int, has func(a, b int) bool) api.Shop {
	s := shop(paints)
	for _, p := range pairsOf(paints) {
		if has(p[0], p[1]) {
			s.Feuds = append(s.Feuds, api.Feud{A: p[0], B: p[1]})
		}
	}
	return s
}

// isSame reports whether two shops are equal; a nil slice is an empty one.
func isSame(s, r api.Shop) bool {
	return s.Paints == r.Paints && slices.Equal(s.Feuds, r.Feuds)
}

// isNothing reports whether a shop is the zero value.
func isNothing(s api.Shop) bool {
	return s.Paints == 0 && len(s.Feuds) == 0
}

func fewestOf(t *testing.T, s api.Shop) int {
	t.Helper()
	n, e := feud.Fewest(s)
	if e != api.OK {
		t.Fatal(s, e)
	}
	return n
}

func counted(t *testing.T, s api.Shop, shelves int) int {
	t.Helper()
	n, e := feud.Count(s, shelves)
	if e != api.OK {
		t.Fatal(s, shelves, e)
	}
	return n
}

func termsOf(t *testing.T, s api.Shop) []int {
	t.Helper()
	l, e := feud.Terms(s)
	if e != api.OK || len(l) != s.Paints+1 {
		t.Fatal(s, l, e)
	}
	return l
}
