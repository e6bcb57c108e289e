package feud_test

import (
	"math"
	"slices"
	"testing"

	"verditer/api"
	"verditer/feud"
)

func TestNumbersOfShelvesThatAreNone(t *testing.T) { // P3.1: ErrArg
	for _, s := range []api.Shop{shop(1), all(3)} {
		for _, k := range []int{0, -1, 10, math.MinInt, math.MaxInt} {
			if n, e := feud.Count(s, k); n != 0 || e != api.ErrArg {
				t.Error(s, k, n, e)
			}
			if l, ok, e := feud.Shelve(s, k); len(l) != 0 || ok || e != api.ErrArg {
				t.Error(s, k, l, ok, e)
			}
			for _, l := range [][]int{nil, {0}, {0, 1, 2}, {0, 0, 0}} {
				if e := feud.CheckShelves(s, k, l); e != api.ErrArg {
					t.Error(s, k, l, e)
				}
			}
		}
	}
}

func TestCheckShelves(t *testing.T) { // P3.3
	for i, c := range []struct {
		k    int
		l    []int
		want api.Errno
	}{
		{2, []int{0, 1, 0, 1}, api.OK},
		{9, []int{8, 0, 8, 7}, api.OK},
		{2, []int{0, 1, 1, 0}, api.ErrRule},
		{2, []int{0, 0, 0, 0}, api.ErrRule},
		{1, []int{0, 0, 0, 0}, api.ErrRule},
		{2, []int{0, 0, 0, 2}, api.ErrArg},
		{2, []int{0, 1, 0, -1}, api.ErrArg},
		{9, []int{9, 1, 0, 1}, api.ErrArg},
		{9, []int{math.MinInt, math.MaxInt, 0, 1}, api.ErrArg},
		{2, []int{0, 1, 0}, api.ErrArg},
		{2, []int{0, 1, 0, 1, 0}, api.ErrArg},
		{2, nil, api.ErrArg},
	} {
		if e := feud.CheckShelves(ring(4, 4), c.k, c.l); e != c.want {
			t.Error(i, e, c.want)
		}
	}
	for _, s := range smallShops(4) {
		for k := 1; k <= 4; k++ {
			eachList(s.Paints, k, func(l []int) {
				want := api.OK
				if !isShelving(s, l) {
					want = api.ErrRule
				}
				if e := feud.CheckShelves(s, k, l); e != want {
					t.Error(s, k, l, e, want)
				}
			})
		}
	}
}

func TestFewest(t *testing.T) { // P3.3
	for _, c := range []struct {
		s    api.Shop
		want int
	}{{shop(1), 1}, {shop(7), 1}, {all(3), 3}, {ring(4, 4), 2}, {ring(5, 5), 3}, {ring(7, 7), 3}, {ring(7, 6), 2}, {all(7), 7}, {sides(7, 3), 2}} {
		if n := fewestOf(t, c.s); n != c.want {
			t.Error(c, n)
		}
	}
	for _, s := range smallShops(5) {
		want := 1
		for countOf(s, want) == 0 {
			want++
		}
		if n := fewestOf(t, s); n != want {
			t.Error(s, n, want)
		}
	}
	for _, s := range someShops() {
		n := fewestOf(t, s)
		bitter, _ := feud.Bitter(s)
		if n < len(bitter) || n > mostFeuds(s)+1 {
			t.Error(s, n, bitter)
		}
		for k := 1; k <= api.MaxShelves; k++ {
			if (counted(t, s, k) == 0) != (k < n) {
				t.Error(s, k, n)
			}
		}
	}
}

// mostFeuds returns the greatest number of feuds of a paint.
func mostFeuds(s api.Shop) int {
	most := 0
	for paint := range s.Paints {
		most = max(most, len(foesOf(s, paint)))
	}
	return most
}

func TestShelve(t *testing.T) { // P3.3
	for _, s := range someShops() {
		for k := 1; k <= api.MaxShelves; k++ {
			l, ok, e := feud.Shelve(s, k)
			if ok != (k >= fewestOf(t, s)) || e != api.OK {
				t.Error(s, k, l, ok, e)
			}
			if !ok && len(l) != 0 {
				t.Error(s, k, l)
			}
			if ok && feud.CheckShelves(s, k, l) != api.OK {
				t.Error(s, k, l)
			}
		}
	}
}

func TestLine(t *testing.T) { // P3.3
	path := shop(4, [2]int{0, 1}, [2]int{1, 2}, [2]int{2, 3})
	for _, c := range []struct {
		s           api.Shop
		order, want []int
	}{
		{path, []int{0, 1, 2, 3}, []int{0, 1, 0, 1}},
		{path, []int{0, 3, 1, 2}, []int{0, 1, 2, 0}},
		{shop(3), []int{2, 0, 1}, []int{0, 0, 0}},
		{all(4), []int{2, 0, 3, 1}, []int{1, 3, 0, 2}},
		{shop(1), []int{0}, []int{0}},
	} {
		if l, e := feud.Line(c.s, c.order); !slices.Equal(l, c.want) || e != api.OK {
			t.Error(c, l, e)
		}
	}
	for _, s := range smallShops(5) {
		least := s.Paints
		eachOrder(s.Paints, func(order []int) { least = min(least, checkLine(t, s, order)) })
		if least != fewestOf(t, s) {
			t.Error(s, least)
		}
	}
	for _, s := range largeShops() {
		for first := range s.Paints {
			var order []int
			for i := range s.Paints {
				order = append(order, (first+i)%s.Paints)
			}
			checkLine(t, s, order)
		}
	}
}

// checkLine checks the shelving of a line and returns how many shelves it needs.
func checkLine(t *testing.T, s api.Shop, order []int) int {
	t.Helper()
	l, e := feud.Line(s, order)
	if e != api.OK || len(l) != s.Paints {
		t.Fatal(s, order, l, e)
	}
	for i, paint := range order {
		for shelf := range l[paint] + 1 {
			taken := slices.ContainsFunc(order[:i], func(other int) bool { return isFeud(s, paint, other) && l[other] == shelf })
			if taken != (shelf < l[paint]) {
				t.Error(s, order, l)
			}
		}
	}
	shelves := slices.Max(l) + 1
	if slices.Min(l) < 0 || shelves > mostFeuds(s)+1 {
		t.Error(s, order, l)
	}
	return shelves
}

func TestOrdersOfALineThatAreNone(t *testing.T) { // P3.1: ErrArg
	for _, order := range [][]int{nil, {}, {0, 1}, {0, 1, 1}, {0, 1, 3}, {-1, 0, 1}, {0, 1, 2, 2}, {0, 1, 2, 3}, {1, 2, 3}, {math.MinInt, 0, math.MaxInt}} {
		if l, e := feud.Line(all(3), order); len(l) != 0 || e != api.ErrArg {
			t.Error(order, l, e)
		}
	}
}
