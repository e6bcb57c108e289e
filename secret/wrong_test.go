package secret_test

import (
	"slices"
	"testing"

	"verditer/api"
	"verditer/secret"
)

// allYs returns all lists of so many of the first values.
func allYs(count, values int) [][]int {
	all := [][]int{nil}
	for range count {
		var longer [][]int
		for _, ys := range all {
			for y := range values {
				longer = append(longer, append(slices.Clone(ys), y))
			}
		}
		all = longer
	}
	return all
}

// smallLists returns lists of few parts with all Ys below 3.
func smallLists() [][]api.Part {
	var all [][]api.Part
	for count := range 6 {
		for _, ys := range allYs(count, 3) {
			all = append(all, partsWith(someXs(count)[0], ys), partsWith(someXs(count)[2], ys))
		}
	}
	return all
}

// nearLists returns lists of all numbers of parts on curves of so many numbers, as they are and with up to three that
// are changed.
func nearLists(need int) [][]api.Part {
	next := numbers()
	var all [][]api.Part
	for count := 1; count <= api.MaxParts; count++ {
		for i, curve := range curvesOf(need)[3:7] {
			l := partsOf(curve, someXs(count)[i])
			all = append(all, l)
			for range 3 {
				l = falsified(l, next(count), 1+next(api.Prime-1))
				all = append(all, l)
			}
		}
	}
	return all
}

func TestLieOn(t *testing.T) { // P8.3
	for need := 1; need <= api.MaxNeed; need++ {
		for _, l := range slices.Concat(smallLists(), nearLists(need)) {
			if ok, e := secret.LieOn(l, need); ok != fits(l, need) || e != api.OK {
				t.Error(l, need, ok, e)
			}
		}
	}
}

func TestLieOnShort(t *testing.T) { // P8.3: no more parts than numbers lie on a curve, whatever they are
	for need := 1; need <= api.MaxNeed; need++ {
		for count := range need + 1 {
			for _, l := range someParts(count) {
				if ok, e := secret.LieOn(l, need); !ok || e != api.OK {
					t.Error(l, need, ok, e)
				}
			}
		}
	}
}

func TestLieOnOfFew(t *testing.T) { // P8.3: with the needs 1 and 2, tried out
	for _, l := range [][]api.Part{
		{{X: 1, Y: 5}, {X: 9, Y: 5}, {X: 250, Y: 5}},
		{{X: 1, Y: 5}, {X: 9, Y: 5}, {X: 250, Y: 6}},
		{{X: 3, Y: 250}, {X: 2, Y: 249}, {X: 250, Y: 246}},
		{{X: 3, Y: 250}, {X: 2, Y: 249}, {X: 250, Y: 245}},
	} {
		one, two := false, false
		for _, first := range allNumbers() {
			one = one || lies([]int{first}, l)
			for _, second := range allNumbers() {
				two = two || lies([]int{first, second}, l)
			}
		}
		is, e := secret.LieOn(l, 1)
		are, f := secret.LieOn(l, 2)
		if is != one || e != api.OK || are != two || f != api.OK {
			t.Error(l, is, one, e, are, two, f)
		}
	}
}

// wrongPlaces returns the places without which the parts lie on a curve with so many numbers.
func wrongPlaces(l []api.Part, need int) []int {
	var places []int
	for place := range l {
		if fits(without(l, place), need) {
			places = append(places, place)
		}
	}
	return places
}

func TestWrongAndRepair(t *testing.T) { // P8.3, R3, by the description
	for need := 1; need <= api.MaxNeed; need++ {
		for _, l := range slices.Concat(smallLists(), nearLists(need)) {
			if len(l) >= need+2 {
				checkWrong(t, l, need)
			}
		}
	}
}

// checkWrong holds Wrong and Repair of a list against the description.
func checkWrong(t *testing.T, l []api.Part, need int) {
	t.Helper()
	place, wrong := 0, false
	if places := wrongPlaces(l, need); !fits(l, need) && len(places) == 1 {
		place, wrong = places[0], true
	}
	if p, ok, e := secret.Wrong(l, need); p != place || ok != wrong || e != api.OK {
		t.Error(l, need, p, ok, e)
	}
	m, ok, e := secret.Repair(l, need)
	switch {
	case e != api.OK || ok != (wrong || fits(l, need)):
		t.Error(l, need, m, ok, e)
	case !ok && len(m) != 0:
		t.Error(l, need, m)
	case ok && !wrong && !slices.Equal(m, l):
		t.Error(l, need, m)
	case wrong && (!slices.Equal(without(m, place), without(l, place)) || m[place].X != l[place].X || !fits(m, need)):
		t.Error(l, need, m)
	}
}

func TestOneFalsePart(t *testing.T) { // P8.3, S8: it is found and put right
	for need := 1; need <= api.MaxNeed; need++ {
		curves := curvesOf(need)
		for count := need + 2; count <= api.MaxParts; count++ {
			for i, xs := range someXs(count) {
				l := partsOf(curves[i], xs)
				for place := range l {
					for by := 1; by < api.Prime; by += 83 {
						bad := falsified(l, place, by)
						if p, ok, e := secret.Wrong(bad, need); p != place || !ok || e != api.OK {
							t.Error(bad, need, p, ok, e)
						}
						if m, ok, e := secret.Repair(bad, need); !slices.Equal(m, l) || !ok || e != api.OK {
							t.Error(bad, need, m, ok, e)
						}
					}
				}
			}
		}
	}
}

func TestEachFalseY(t *testing.T) { // P8.3: one part of a curve of two numbers with each Y
	l := partsOf([]int{11, 240}, []int{250, 7, 3, 100})
	for place := range l {
		for by := range api.Prime {
			bad := falsified(l, place, by)
			p, ok, e := secret.Wrong(bad, 2)
			if by == 0 && (p != 0 || ok) || by != 0 && (p != place || !ok) || e != api.OK {
				t.Error(bad, p, ok, e)
			}
			if m, ok, e := secret.Repair(bad, 2); !slices.Equal(m, l) || !ok || e != api.OK {
				t.Error(bad, m, ok, e)
			}
		}
	}
}

func TestTwoFalseParts(t *testing.T) { // P8.3: they are not put right where there are need + 3 parts or more
	for need := 1; need <= api.MaxNeed; need++ {
		for count := need + 3; count <= api.MaxParts; count++ {
			l := partsOf(curvesOf(need)[5], someXs(count)[3])
			for a := range count {
				for b := range a {
					bad := falsified(falsified(l, a, 1), b, 200)
					if p, ok, e := secret.Wrong(bad, need); p != 0 || ok || e != api.OK {
						t.Error(bad, need, p, ok, e)
					}
					if m, ok, e := secret.Repair(bad, need); len(m) != 0 || ok || e != api.OK {
						t.Error(bad, need, m, ok, e)
					}
				}
			}
		}
	}
}

func TestWithout(t *testing.T) { // P8.5, R3
	for count := range api.MaxParts + 1 {
		for _, l := range someParts(count) {
			for _, x := range allNumbers()[1:] {
				m, e := secret.Without(l, x)
				place := slices.Index(xsOf(l), x)
				switch {
				case place < 0 && (e != api.ErrNone || len(m) != 0):
					t.Error(l, x, m, e)
				case place >= 0 && (e != api.OK || !slices.Equal(m, without(l, place))):
					t.Error(l, x, m, e)
				}
			}
		}
	}
}
