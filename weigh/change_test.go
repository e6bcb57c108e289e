package weigh_test

import (
	"math"
	"slices"
	"testing"

	"verditer/api"
	"verditer/weigh"
)

func TestMirror(t *testing.T) { // P6.6
	for _, h := range someHouses() {
		for k, w := range h.plan {
			want := copyOf(h.plan)
			want[k] = api.Weighing{Left: w.Right, Right: w.Left}
			p, e := weigh.Mirror(h.lots, h.plan, k)
			if !areSame(p, want) || e != api.OK {
				t.Fatal(h, k, p, e)
			}
			checkAsGood(t, h, p)
		}
	}
}

func TestWithout(t *testing.T) { // P6.6
	for _, h := range someHouses() {
		for k := range h.plan {
			p, e := weigh.Without(h.lots, h.plan, k)
			if !areSame(p, slices.Concat(h.plan[:k], h.plan[k+1:])) || e != api.OK {
				t.Fatal(h, k, p, e)
			}
			if possibleOf(t, house{h.lots, p}) > possibleOf(t, h) {
				t.Error(h, k, p)
			}
		}
	}
}

func TestRename(t *testing.T) { // P6.6
	next := numbers()
	for _, h := range largeHouses() {
		for range 5 {
			checkRename(t, h, shuffled(h.lots, next))
		}
	}
	for _, h := range smallHouses() {
		if h.lots > 4 {
			checkRename(t, h, shuffled(h.lots, next))
			continue
		}
		for _, to := range listsOf(h.lots, 0, h.lots-1) {
			if len(to) == h.lots && areDifferent(to) {
				checkRename(t, h, to)
			}
		}
	}
}

// checkRename checks Rename by the definition: from the new numbers back.
func checkRename(t *testing.T, h house, to []int) {
	t.Helper()
	renamed := func(side []int) []int {
		var set []int
		for lot := range h.lots {
			if slices.Contains(side, slices.Index(to, lot)) {
				set = append(set, lot)
			}
		}
		return set
	}
	var want []api.Weighing
	for _, w := range h.plan {
		want = append(want, api.Weighing{Left: renamed(w.Left), Right: renamed(w.Right)})
	}
	p, e := weigh.Rename(h.lots, h.plan, to)
	if !areSame(p, want) || e != api.OK {
		t.Fatal(h, to, p, e)
	}
	checkAsGood(t, h, p)
}

// checkAsGood checks that a plan is one, tells if another one does, and has as many possible answers.
func checkAsGood(t *testing.T, h house, plan []api.Weighing) {
	t.Helper()
	other := house{h.lots, plan}
	if weigh.Validate(h.lots, plan) != api.OK || tellsOf(t, other) != tellsOf(t, h) || possibleOf(t, other) != possibleOf(t, h) {
		t.Error(h, plan)
	}
}

// areDifferent reports whether no number comes twice.
func areDifferent(l []int) bool {
	for i, n := range l {
		if slices.Contains(l[:i], n) {
			return false
		}
	}
	return true
}

func TestNumbersOfWeighingsThatAreNone(t *testing.T) { // P6.1: ErrNone
	for _, h := range []house{{3, nil}, one(), three(), twelve()} {
		for _, k := range []int{-1, len(h.plan), len(h.plan) + 1, math.MinInt, math.MaxInt} {
			if p, e := weigh.Mirror(h.lots, h.plan, k); len(p) != 0 || e != api.ErrNone {
				t.Error(h, k, p, e)
			}
			if p, e := weigh.Without(h.lots, h.plan, k); len(p) != 0 || e != api.ErrNone {
				t.Error(h, k, p, e)
			}
		}
	}
}

func TestOrdersThatAreNone(t *testing.T) { // P6.1: ErrArg
	for _, h := range []house{{3, nil}, one(), three()} {
		lists := append(listsOf(4, -1, 3), []int{math.MinInt, 0, 1}, []int{0, 1, math.MaxInt}, make([]int, 100))
		for _, to := range lists {
			if len(to) == 3 && areDifferent(to) && slices.Min(to) == 0 && slices.Max(to) == 2 {
				continue
			}
			if p, e := weigh.Rename(h.lots, h.plan, to); len(p) != 0 || e != api.ErrArg {
				t.Error(h, to, p, e)
			}
		}
	}
	for _, to := range [][]int{nil, {1}, {0, 0}} {
		if p, e := weigh.Rename(1, nil, to); len(p) != 0 || e != api.ErrArg {
			t.Error(to, p, e)
		}
	}
}
