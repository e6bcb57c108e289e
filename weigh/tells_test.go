package weigh_test

import (
	"slices"
	"testing"

	"verditer/api"
	"verditer/weigh"
)

func TestTells(t *testing.T) { // P6.4, S6
	tell := 0
	for _, h := range someHouses() {
		ok := tellsOf(t, h)
		if ok != h.tells() || ok != areTelling(marksOf(t, h)) {
			t.Error(h, ok)
		}
		if ok {
			tell++
		}
	}
	for _, h := range []house{three(), nine(), twelve(), {3, append(three().plan, api.Weighing{})}} {
		if !tellsOf(t, h) {
			t.Error(h)
		}
	}
	for _, h := range []house{one(), thirteen(), {2, []api.Weighing{on(0, 1)}}, {1, nil}, {1, make([]api.Weighing, 3)}} {
		if tellsOf(t, h) {
			t.Error(h)
		}
	}
	if tell < 100 {
		t.Error("few plans tell", tell)
	}
}

// areTelling reports whether no mark is blank, and no two are the same or opposite.
func areTelling(marks [][]int) bool {
	for i, m := range marks {
		if isBlank(m) {
			return false
		}
		for _, other := range marks[:i] {
			if slices.Equal(m, other) || slices.Equal(m, opposite(other)) {
				return false
			}
		}
	}
	return true
}

func TestBad(t *testing.T) { // P6.4
	for _, h := range someHouses() {
		c, d, ok, e := weigh.Bad(h.lots, h.plan)
		if ok == h.tells() || e != api.OK {
			t.Error(h, c, d, ok, e)
		}
		if ok {
			cases := casesOf(h.lots)
			if !slices.Contains(cases, c) || !slices.Contains(cases, d) || !isProof(h.plan, c, d) || weigh.CheckBad(h.lots, h.plan, c, d) != api.OK {
				t.Error(h, c, d)
			}
		} else if c != (api.Case{}) || d != (api.Case{}) {
			t.Error(h, c, d)
		}
	}
}

func TestCheckBad(t *testing.T) { // P6.4
	for _, h := range someHouses() {
		for _, c := range casesOf(h.lots) {
			for _, d := range casesOf(h.lots) {
				want := api.ErrProof
				if isProof(h.plan, c, d) {
					want = api.OK
				}
				if e := weigh.CheckBad(h.lots, h.plan, c, d); e != want {
					t.Fatal(h, c, d, e)
				}
			}
		}
	}
}
