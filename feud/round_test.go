package feud_test

import (
	"math"
	"slices"
	"testing"

	"verditer/api"
	"verditer/feud"
)

func TestCheckRound(t *testing.T) { // P3.5
	for i, c := range []struct {
		s     api.Shop
		round []int
		want  api.Errno
	}{
		{ring(4, 4), []int{0, 1, 2, 3}, api.OK},
		{ring(4, 4), []int{2, 1, 0, 3}, api.OK},
		{all(7), []int{6, 0, 5, 1, 4, 2, 3}, api.OK},
		{ring(4, 4), []int{0, 1, 2}, api.ErrProof}, // the last one and the first one have no feud
		{ring(4, 4), []int{0, 2, 1, 3}, api.ErrProof},
		{ring(4, 3), []int{0, 1, 2, 3}, api.ErrProof},
		{shop(3), []int{0, 1, 2}, api.ErrProof},
		{ring(4, 4), []int{0, 1}, api.ErrArg},
		{ring(4, 4), []int{0}, api.ErrArg},
		{ring(4, 4), nil, api.ErrArg},
		{ring(4, 4), []int{0, 1, 0}, api.ErrArg},
		{ring(4, 4), []int{0, 1, 2, 3, 0}, api.ErrArg},
		{ring(4, 4), []int{0, 1, 4}, api.ErrArg},
		{ring(4, 4), []int{-1, 0, 1}, api.ErrArg},
		{ring(4, 4), []int{math.MinInt, 0, math.MaxInt}, api.ErrArg},
		{shop(2, [2]int{0, 1}), []int{0, 1, 0}, api.ErrArg},
		{all(7), make([]int, 100), api.ErrArg},
	} {
		if e := feud.CheckRound(c.s, c.round); e != c.want {
			t.Error(i, e, c.want)
		}
	}
	for _, s := range smallShops(4) {
		for n := range 5 {
			eachList(n, 5, func(l []int) { // the number 4 is no paint
				if e := feud.CheckRound(s, l); e != roundError(s, l) {
					t.Error(s, l, e)
				}
			})
		}
	}
}

// roundError is CheckRound of a shop, as the document words it.
func roundError(s api.Shop, l []int) api.Errno {
	if len(l) < 3 || slices.Max(l) >= s.Paints || len(slices.Compact(slices.Sorted(slices.Values(l)))) < len(l) {
		return api.ErrArg
	}
	for i, paint := range l {
		if !isFeud(s, paint, l[(i+1)%len(l)]) {
			return api.ErrProof
		}
	}
	return api.OK
}

func TestOdd(t *testing.T) { // P3.5
	for _, s := range someShops() {
		round, ok, e := feud.Odd(s)
		if ok != (fewestOf(t, s) > 2) || e != api.OK || !ok && len(round) != 0 {
			t.Error(s, round, ok, e)
		}
		if ok && (len(round)%2 == 0 || feud.CheckRound(s, round) != api.OK) {
			t.Error(s, round)
		}
	}
}
