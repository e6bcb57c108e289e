package knead_test

import (
	"math"
	"slices"
	"testing"

	"verditer/api"
	"verditer/knead"
)

func TestValidate(t *testing.T) { // P7.1
	for n := range 200 {
		want := api.ErrArg
		if slices.Contains(evens(), n) {
			want = api.OK
		}
		if e := knead.Validate(make([]int, n)); e != want {
			t.Error(n, e)
		}
	}
	for _, n := range evens() {
		for _, dough := range doughs(n) { // any number can be a lump
			if e := knead.Validate(dough); e != api.OK {
				t.Error(dough, e)
			}
		}
	}
	for _, dough := range badDoughs() {
		if e := knead.Validate(dough); e != api.ErrArg {
			t.Error(dough, e)
		}
	}
}

// withDough has a call of each function with a dough alone: whether all results but the error are zero, and the error.
func withDough() map[string]func(dough []int) (bool, api.Errno) {
	list := func(f func(dough []int) ([]int, api.Errno)) func(dough []int) (bool, api.Errno) {
		return func(dough []int) (bool, api.Errno) {
			l, e := f(dough)
			return len(l) == 0, e
		}
	}
	return map[string]func(dough []int) (bool, api.Errno){
		"Out": list(knead.Out), "In": list(knead.In), "UnOut": list(knead.UnOut), "UnIn": list(knead.UnIn),
		"Pairs": func(dough []int) (bool, api.Errno) {
			ok, e := knead.Pairs(dough)
			return !ok, e
		},
	}
}

func TestDoughsThatAreNone(t *testing.T) { // P7.1, R2, R3
	for _, dough := range badDoughs() {
		for name, call := range withDough() {
			if zero, e := call(dough); !zero || e != api.ErrArg {
				t.Error(name, dough, zero, e)
			}
		}
	}
}

func TestDoughBeforeWord(t *testing.T) { // P7.1, R2, R3
	calls := map[string]func(dough, word []int) ([]int, api.Errno){"Fold": knead.Fold, "Unfold": knead.Unfold}
	for name, call := range calls {
		for _, w := range anyWords() {
			for _, dough := range badDoughs() {
				if l, e := call(dough, w.word); len(l) != 0 || e != api.ErrArg {
					t.Error(name, dough, w, l, e)
				}
			}
			for _, n := range evens() {
				if l, e := call(numbered(n), w.word); e != w.want || e != api.OK && len(l) != 0 {
					t.Error(name, n, w, l, e)
				}
			}
		}
	}
}

func TestLumpsBeforeKind(t *testing.T) { // P7.1, R3
	of := func(n, kind int) (bool, api.Errno, bool, api.Errno) {
		times, e := knead.Times(n, kind)
		rounds, f := knead.Rounds(n, kind)
		return times == 0, e, len(rounds) == 0, f
	}
	for _, kind := range append(notKinds(), 0, 1) {
		for _, n := range notEvens() {
			if zero, e, empty, f := of(n, kind); !zero || e != api.ErrArg || !empty || f != api.ErrArg {
				t.Error(n, kind, zero, e, empty, f)
			}
		}
	}
	for _, kind := range notKinds() {
		for _, n := range evens() {
			if zero, e, empty, f := of(n, kind); !zero || e != api.ErrArg || !empty || f != api.ErrArg {
				t.Error(n, kind, zero, e, empty, f)
			}
		}
	}
}

func TestLumpsThenPlaceThenWord(t *testing.T) { // P7.1, R3: Place
	for _, w := range anyWords() {
		for _, n := range notEvens() {
			for _, place := range []int{-1, 0, 5, 100} {
				if p, e := knead.Place(n, w.word, place); p != 0 || e != api.ErrArg {
					t.Error(n, w, place, p, e)
				}
			}
		}
		for _, n := range evens() {
			for _, place := range notPlaces(n) {
				if p, e := knead.Place(n, w.word, place); p != 0 || e != api.ErrNone {
					t.Error(n, w, place, p, e)
				}
			}
			if p, e := knead.Place(n, w.word, n-1); e != w.want || e != api.OK && p != 0 {
				t.Error(n, w, p, e)
			}
		}
	}
}

func TestLumpsThenPlaces(t *testing.T) { // P7.1, R3: Bring and Way
	for _, n := range notEvens() {
		for _, place := range []int{-1, 0, 1, 100} {
			if l, e := knead.Bring(n, place); len(l) != 0 || e != api.ErrArg {
				t.Error(n, place, l, e)
			}
			if l, ok, e := knead.Way(n, place, 0); len(l) != 0 || ok || e != api.ErrArg {
				t.Error(n, place, l, ok, e)
			}
			if l, ok, e := knead.Way(n, 0, place); len(l) != 0 || ok || e != api.ErrArg {
				t.Error(n, place, l, ok, e)
			}
		}
	}
	for _, n := range evens() {
		for _, place := range notPlaces(n) {
			if l, e := knead.Bring(n, place); len(l) != 0 || e != api.ErrNone {
				t.Error(n, place, l, e)
			}
			for _, other := range append(notPlaces(n), 0, n-1) {
				if l, ok, e := knead.Way(n, place, other); len(l) != 0 || ok || e != api.ErrNone {
					t.Error(n, place, other, l, ok, e)
				}
				if l, ok, e := knead.Way(n, other, place); len(l) != 0 || ok || e != api.ErrNone {
					t.Error(n, other, place, l, ok, e)
				}
			}
		}
	}
}

func TestLumpsBeforeWords(t *testing.T) { // P7.1, R3: IsOdd, Still and Same; of two words, the first one counts first
	for _, n := range append(notEvens(), evens()...) {
		for _, v := range anyWords() {
			want := v.want
			if !slices.Contains(evens(), n) {
				want = api.ErrArg
			}
			if is, e := knead.IsOdd(n, v.word); e != want || e != api.OK && is {
				t.Error(n, v, is, e)
			}
			if still, e := knead.Still(n, v.word); e != want || e != api.OK && still != 0 {
				t.Error(n, v, still, e)
			}
			for _, w := range anyWords() {
				both := want
				if both == api.OK {
					both = w.want
				}
				if is, e := knead.Same(n, v.word, w.word); e != both || e != api.OK && is {
					t.Error(n, v, w, is, e)
				}
			}
		}
	}
}

func TestErrorsOfPower(t *testing.T) { // P7.1, P7.5, R3: first those of the word, then those of the times
	times := []int{math.MinInt, -1, 0, 1, 40, 41, math.MaxInt}
	for _, w := range badWords() {
		for _, n := range times {
			if l, e := knead.Power(w.word, n); len(l) != 0 || e != w.want {
				t.Error(w, n, l, e)
			}
		}
	}
	for length := range api.MaxFolds + 1 {
		for _, n := range append(numbered(api.MaxFolds+1), math.MinInt, -41, -1, 41, 42, 1<<32, math.MaxInt/2+1, math.MaxInt) {
			want := api.OK
			switch {
			case n < 0 || n > api.MaxFolds:
				want = api.ErrArg
			case length*n > api.MaxFolds:
				want = api.ErrLarge
			}
			if l, e := knead.Power(make([]int, length), n); e != want || e != api.OK && len(l) != 0 {
				t.Error(length, n, l, e, want)
			}
		}
	}
}
