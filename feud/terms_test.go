package feud_test

import (
	"slices"
	"testing"

	"verditer/api"
	"verditer/feud"
)

func TestExamples(t *testing.T) { // P3.4, P3.3
	for _, c := range []struct {
		s      api.Shop
		fewest int
		terms  []int
		orders int
		k, n   int
	}{
		{all(3), 3, []int{0, 2, -3, 1}, 6, 3, 6},
		{shop(1), 1, []int{0, 1}, 1, 9, 9},
		{shop(3), 1, []int{0, 0, 0, 1}, 1, 2, 8},
		{shop(7), 1, []int{0, 0, 0, 0, 0, 0, 0, 1}, 1, 9, 4782969},
		{ring(4, 4), 2, []int{0, -3, 6, -4, 1}, 14, 2, 2},
		{shop(3, [2]int{0, 1}, [2]int{1, 2}), 2, []int{0, 1, -2, 1}, 4, 3, 12},
		{all(7), 7, []int{0, 720, -1764, 1624, -735, 175, -21, 1}, 5040, 9, 181440},
	} {
		l, n, orders := termsOf(t, c.s), counted(t, c.s, c.k), ordersOf(t, c.s)
		if !slices.Equal(l, c.terms) || n != c.n || orders != c.orders || fewestOf(t, c.s) != c.fewest {
			t.Error(c, l, n, orders)
		}
	}
}

func TestCount(t *testing.T) { // P3.4: for 5 paints the numbers up to 6 shelves tell all terms
	for _, s := range smallShops(5) {
		most := api.MaxShelves
		if s.Paints == 5 {
			most = 6
		}
		for k := 1; k <= most; k++ {
			if n, want := counted(t, s, k), countOf(s, k); n != want {
				t.Error(s, k, n, want)
			}
		}
	}
	for _, s := range largeShops() {
		for k := 1; k <= 4; k++ {
			if n, want := counted(t, s, k), countOf(s, k); n != want {
				t.Error(s, k, n, want)
			}
		}
	}
}

func TestTerms(t *testing.T) { // P3.4, S3
	for _, s := range someShops() {
		terms := termsOf(t, s)
		for k := 1; k <= api.MaxShelves; k++ {
			if n := sumAt(terms, k); n != counted(t, s, k) {
				t.Error(s, k, terms, n)
			}
		}
		if terms[s.Paints] != 1 || terms[s.Paints-1] != -len(s.Feuds) {
			t.Error(s, terms)
		}
		if n := sumAt(terms, -1); max(n, -n) != ordersOf(t, s) {
			t.Error(s, terms, n)
		}
	}
}

// sumAt returns the sum of the terms times the powers of k.
func sumAt(terms []int, k int) int {
	sum := 0
	for i, term := range terms {
		for range i {
			term *= k
		}
		sum += term
	}
	return sum
}

func TestCountIsThatOfDropLessThatOfMerge(t *testing.T) { // P3.4, P3.5, S3
	for _, s := range someShops() {
		for f := range s.Feuds {
			dropped, e := feud.Drop(s, f)
			if e != api.OK {
				t.Fatal(s, f, e)
			}
			merged, e := feud.Merge(s, f)
			if e != api.OK {
				t.Fatal(s, f, e)
			}
			for k := 1; k <= api.MaxShelves; k++ {
				if counted(t, s, k) != counted(t, dropped, k)-counted(t, merged, k) {
					t.Error(s, f, k, dropped, merged)
				}
			}
		}
	}
}

func TestOrders(t *testing.T) { // P3.4, S3
	for _, s := range someShops() {
		if len(s.Feuds) > 12 {
			continue
		}
		want := 0
		eachList(len(s.Feuds), 2, func(ways []int) {
			if !leadsBack(s, ways) {
				want++
			}
		})
		if n := ordersOf(t, s); n != want {
			t.Error(s, n, want)
		}
	}
}

func TestOrdersOfManyFeuds(t *testing.T) { // P3.4: each order of the paints gives directions that lead down, and there are no others
	for _, s := range largeShops()[:20] {
		seen := map[[21]bool]bool{}
		eachOrder(s.Paints, func(order []int) {
			var ways [21]bool
			for i, f := range s.Feuds {
				ways[i] = slices.Index(order, f.A) < slices.Index(order, f.B)
			}
			seen[ways] = true
		})
		if n := ordersOf(t, s); n != len(seen) {
			t.Error(s, n, len(seen))
		}
	}
}

// leadsBack reports whether a paint can be reached from itself, if each feud leads from A to B (0) or back (1).
func leadsBack(s api.Shop, ways []int) bool {
	var reach [api.MaxPaints][api.MaxPaints]bool
	for i, f := range s.Feuds {
		if ways[i] == 0 {
			reach[f.A][f.B] = true
		} else {
			reach[f.B][f.A] = true
		}
	}
	for over := range s.Paints {
		for a := range s.Paints {
			for b := range s.Paints {
				reach[a][b] = reach[a][b] || reach[a][over] && reach[over][b]
			}
		}
	}
	for paint := range s.Paints {
		if reach[paint][paint] {
			return true
		}
	}
	return false
}

func ordersOf(t *testing.T, s api.Shop) int {
	t.Helper()
	n, e := feud.Orders(s)
	if e != api.OK {
		t.Fatal(s, e)
	}
	return n
}
