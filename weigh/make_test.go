package weigh_test

import (
	"math"
	"slices"
	"testing"

	"verditer/api"
	"verditer/weigh"
)

// counts returns the numbers of lots, up to MaxLots, that some plan of so many weighings tells: those of marks that add
// up to the blank one, none of them blank and no two the same or opposite.
func counts(weighings int) []int {
	sums := make([]map[[3]int]bool, api.MaxLots+1) // for each number of marks, what they can add up to
	for n := range sums {
		sums[n] = map[[3]int]bool{}
	}
	sums[0][[3]int{}] = true
	eachList(weighings, -1, 1, func(l []int) {
		if slices.Compare(l, opposite(l)) <= 0 { // blank, or the opposite one comes, too
			return
		}
		for n := api.MaxLots; n > 0; n-- {
			for sum := range sums[n-1] {
				plus, minus := sum, sum
				for k, side := range l {
					plus[k] += side
					minus[k] -= side
				}
				sums[n][plus], sums[n][minus] = true, true
			}
		}
	})
	var found []int
	for n := 1; n <= api.MaxLots; n++ {
		if sums[n][[3]int{}] {
			found = append(found, n)
		}
	}
	return found
}

func TestCanTellByTryingAllPlans(t *testing.T) { // P6.5
	for weighings, most := range []int{13, 8, 6, 4} {
		for lots := 1; lots <= most; lots++ {
			want := slices.ContainsFunc(housesOf(lots, weighings), house.tells)
			if ok, e := weigh.CanTell(lots, weighings); ok != want || e != api.OK {
				t.Error(lots, weighings, ok, e)
			}
		}
	}
}

func TestMostAndCanTell(t *testing.T) { // P6.5, S6: thirteen cannot be told
	for weighings := range api.MaxWeighings + 1 {
		can := counts(weighings)
		most := 0
		if len(can) > 0 {
			most = slices.Max(can)
		}
		if want := []int{0, 0, 3, 12}[weighings]; most != want {
			t.Error(weighings, most, want)
		}
		if n, e := weigh.Most(weighings); n != most || e != api.OK {
			t.Error(weighings, n, e)
		}
		for lots := 1; lots <= api.MaxLots; lots++ {
			if ok, e := weigh.CanTell(lots, weighings); ok != slices.Contains(can, lots) || e != api.OK {
				t.Error(lots, weighings, ok, e)
			}
		}
	}
}

func TestMake(t *testing.T) { // P6.5
	for weighings := range api.MaxWeighings + 1 {
		can := counts(weighings)
		for lots := 1; lots <= api.MaxLots; lots++ {
			plan, ok, e := weigh.Make(lots, weighings)
			if ok != slices.Contains(can, lots) || e != api.OK || !ok && len(plan) != 0 {
				t.Error(lots, weighings, plan, ok, e)
			}
			if ok && (len(plan) != weighings || weigh.Validate(lots, plan) != api.OK || !house{lots, plan}.tells()) {
				t.Error(lots, weighings, plan)
			}
		}
	}
}

func TestLeast(t *testing.T) { // P6.5
	for lots := 1; lots <= api.MaxLots; lots++ {
		want, fails := 0, api.ErrNone
		for weighings := api.MaxWeighings; weighings >= 0; weighings-- {
			if slices.Contains(counts(weighings), lots) {
				want, fails = weighings, api.OK
			}
		}
		if n, e := weigh.Least(lots); n != want || e != fails {
			t.Error(lots, n, e)
		}
	}
	for lots, want := range map[int]int{3: 2, 4: 3, 12: 3} {
		if n, e := weigh.Least(lots); n != want || e != api.OK {
			t.Error(lots, n, e)
		}
	}
}

func TestCountsThatAreNone(t *testing.T) { // P6.1: ErrArg
	for _, lots := range []int{math.MinInt, -1, 0, 1, 3, 13, 14, math.MaxInt} {
		badLots := lots < 1 || lots > api.MaxLots
		if n, e := weigh.Least(lots); badLots && (n != 0 || e != api.ErrArg) {
			t.Error(lots, n, e)
		}
		for _, weighings := range []int{math.MinInt, -1, 0, 3, 4, math.MaxInt} {
			badWeighings := weighings < 0 || weighings > api.MaxWeighings
			if n, e := weigh.Most(weighings); badWeighings && (n != 0 || e != api.ErrArg) {
				t.Error(weighings, n, e)
			}
			if !badLots && !badWeighings {
				continue
			}
			if ok, e := weigh.CanTell(lots, weighings); ok || e != api.ErrArg {
				t.Error(lots, weighings, ok, e)
			}
			if plan, ok, e := weigh.Make(lots, weighings); len(plan) != 0 || ok || e != api.ErrArg {
				t.Error(lots, weighings, plan, ok, e)
			}
		}
	}
}
