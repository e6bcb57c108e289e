package sun_test

import (
	"math"
	"slices"
	"testing"

	"verditer/api"
	"verditer/sun"
)

// allWins returns the wins of all tables with so many strips; the rest of each list is 0.
func allWins(strips int) map[[api.MaxStrips]int]bool {
	pairs := pairsOf(strips)
	all := map[[api.MaxStrips]int]bool{}
	for bits := range 1 << len(pairs) {
		var wins [api.MaxStrips]int
		for i, p := range pairs {
			wins[p[bits>>i&1]]++
		}
		all[wins] = true
	}
	return all
}

func TestCanWinAndMake(t *testing.T) { // P5.6: all lists of up to 7 numbers from 0 to MaxStrips
	for strips := 1; strips <= api.MaxStrips; strips++ {
		all := allWins(strips)
		found := 0
		eachList(strips, 0, api.MaxStrips, func(l []int) {
			var wins [api.MaxStrips]int
			copy(wins[:], l)
			ok, e := sun.CanWin(l)
			if ok != all[wins] || e != api.OK {
				t.Error(l, ok, e)
			}
			if ok || strips < 7 {
				checkMake(t, l, ok)
			}
			if ok {
				found++
			}
		})
		if found != len(all) {
			t.Error(strips, found, len(all))
		}
	}
}

// checkMake checks a result of Make, and whether there is one.
func checkMake(t *testing.T, wins []int, want bool) {
	t.Helper()
	table, ok, e := sun.Make(wins)
	if ok != want || e != api.OK || !ok && len(table) != 0 {
		t.Error(wins, table, ok, e)
	}
	if ok && !slices.Equal(winsOf(t, table), wins) {
		t.Error(wins, table)
	}
}

func TestNamedWins(t *testing.T) { // P5.6
	for _, c := range []struct {
		wins []int
		want bool
	}{
		{[]int{0}, true},
		{[]int{1}, false},
		{[]int{7}, false},
		{[]int{1, 1, 1}, true},
		{[]int{0, 1, 2}, true},
		{[]int{2, 1, 0}, true},
		{[]int{0, 0, 3}, false},
		{[]int{3, 0, 0}, false},
		{[]int{0, 0, 2}, false},
		{[]int{2, 2, 2}, false},
		{[]int{1, 5, 3, 1, 5, 1, 5}, true},
		{[]int{6, 6, 5, 1, 1, 1, 1}, false},
		{[]int{7, 7, 7, 0, 0, 0, 0}, false},
		{[]int{7, 7, 7, 7, 7, 7, 7}, false},
		{[]int{0, 0, 0, 0, 0, 0, 0}, false},
	} {
		if ok, e := sun.CanWin(c.wins); ok != c.want || e != api.OK {
			t.Error(c, ok, e)
		}
		checkMake(t, c.wins, c.want)
	}
}

func TestWinsThatAreNone(t *testing.T) { // P5.6: ErrLarge, ErrArg
	for _, c := range []struct {
		wins []int
		want api.Errno
	}{
		{nil, api.ErrLarge},
		{[]int{}, api.ErrLarge},
		{make([]int, 8), api.ErrLarge},
		{[]int{-1, 8, 0, 1, 2, 3, 4, 5}, api.ErrLarge},
		{[]int{8}, api.ErrArg},
		{[]int{-1}, api.ErrArg},
		{[]int{1, 1, 8}, api.ErrArg},
		{[]int{-1, 1, 3}, api.ErrArg},
		{[]int{0, 1, 2, 3, 4, 5, -1}, api.ErrArg},
		{[]int{math.MinInt, math.MaxInt, 1}, api.ErrArg},
	} {
		if ok, e := sun.CanWin(c.wins); ok || e != c.want {
			t.Error(c, ok, e)
		}
		if table, ok, e := sun.Make(c.wins); len(table) != 0 || ok || e != c.want {
			t.Error(c, table, ok, e)
		}
	}
}

func TestWinsAreNotChanged(t *testing.T) { // R5
	wins := []int{5, 1, 3, 1, 5, 1, 5}
	want := slices.Clone(wins)
	sun.CanWin(wins)
	sun.Make(wins)
	if !slices.Equal(wins, want) {
		t.Error(wins)
	}
}
