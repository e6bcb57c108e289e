package secret_test

import (
	"slices"
	"testing"

	"verditer/api"
	"verditer/secret"
)

func TestExamples(t *testing.T) { // the chapter's examples
	l := shareOf(t, []int{7, 1}, 3)
	if !slices.Equal(l, []api.Part{{X: 1, Y: 8}, {X: 2, Y: 9}, {X: 3, Y: 10}}) {
		t.Error(l)
	}
	if w, e := secret.Weights([]int{1, 2}); !slices.Equal(w, []int{2, 250}) || e != api.OK {
		t.Error(w, e)
	}
	l = append(l, api.Part{X: 4, Y: 0})
	if place, ok, e := secret.Wrong(l, 2); place != 3 || !ok || e != api.OK {
		t.Error(place, ok, e)
	}
	if m, ok, e := secret.Repair(l, 2); !slices.Equal(m, append(l[:3:3], api.Part{X: 4, Y: 11})) || !ok || e != api.OK {
		t.Error(m, ok, e)
	}
	if c, e := secret.Complete([]api.Part{{X: 1, Y: 8}}, 0); !slices.Equal(c, []int{0, 8}) || e != api.OK {
		t.Error(c, e)
	}
}

func TestAt(t *testing.T) { // P8.2
	for _, curve := range curves() {
		for _, x := range allNumbers() {
			if y, e := secret.At(curve, x); y != valueAt(curve, x) || e != api.OK {
				t.Error(curve, x, y, e)
			}
		}
	}
	for _, first := range allNumbers() {
		for _, second := range []int{0, 1, 2, 125, 126, 249, 250} {
			for _, x := range allNumbers() {
				if y, e := secret.At([]int{first, second}, x); y != (first+second*x)%api.Prime || e != api.OK {
					t.Error(first, second, x, y, e)
				}
			}
		}
	}
}

func TestInverse(t *testing.T) { // P8.2
	for _, a := range allNumbers()[1:] {
		if n, e := secret.Inverse(a); n < 1 || n >= api.Prime || n*a%api.Prime != 1 || e != api.OK {
			t.Error(a, n, e)
		}
	}
}

func TestShare(t *testing.T) { // P8.2
	for _, curve := range curves() {
		for parts := 1; parts <= api.MaxParts; parts++ {
			if l, e := secret.Share(curve, parts); !slices.Equal(l, partsOf(curve, someXs(parts)[0])) || e != api.OK {
				t.Error(curve, parts, l, e)
			}
		}
	}
}

func TestCurveOfShare(t *testing.T) { // P8.2, S8: the curve is known from any so many of its parts
	for need := 1; need <= api.MaxNeed; need++ {
		for i, curve := range curvesOf(need)[3:9] {
			shared := shareOf(t, curve, api.MaxParts)
			if got := curveOf(t, shared[:need]); !slices.Equal(got, curve) {
				t.Error(curve, got)
			}
			for j, l := range subsets(shared, need) {
				if (i+j)%2 == 0 {
					slices.Reverse(l)
				}
				if got := curveOf(t, l); !slices.Equal(got, curve) {
					t.Error(curve, l, got)
				}
			}
		}
	}
}

func TestCurve(t *testing.T) { // P8.2: Curve, Secret and Part
	for count := 1; count <= api.MaxNeed; count++ {
		for _, l := range someParts(count) {
			curve := curveOf(t, l)
			if len(curve) != count || !lies(curve, l) || slices.Min(curve) < 0 || slices.Max(curve) >= api.Prime {
				t.Error(l, curve)
			}
			if n := secretOf(t, l); n != curve[0] {
				t.Error(l, curve, n)
			}
			for _, x := range allNumbers()[1:] {
				if p, e := secret.Part(l, x); p != (api.Part{X: x, Y: valueAt(curve, x)}) || e != api.OK {
					t.Error(l, curve, x, p, e)
				}
			}
		}
	}
}

func TestCurveOfFew(t *testing.T) { // P8.2: of one and of two parts, tried out
	for _, x := range allNumbers()[1:] {
		for _, y := range allNumbers() {
			if got := curveOf(t, []api.Part{{X: x, Y: y}}); !slices.Equal(got, []int{y}) {
				t.Error(x, y, got)
			}
		}
	}
	for _, xs := range someXs(2) {
		for _, ys := range [][]int{{0, 0}, {0, 1}, {1, 0}, {250, 250}, {17, 203}} {
			l := partsWith(xs, ys)
			var found [][]int
			for _, first := range allNumbers() {
				for _, second := range allNumbers() {
					if lies([]int{first, second}, l) {
						found = append(found, []int{first, second})
					}
				}
			}
			if got := curveOf(t, l); len(found) != 1 || !slices.Equal(got, found[0]) {
				t.Error(l, found, got)
			}
		}
	}
}

func TestComplete(t *testing.T) { // P8.4, S8: fewer parts than are needed fit with each secret
	for count := range api.MaxNeed {
		for _, l := range someParts(count) {
			for _, n := range allNumbers() {
				curve, e := secret.Complete(l, n)
				if e != api.OK || len(curve) != count+1 || curve[0] != n || !lies(curve, l) || slices.Min(curve) < 0 || slices.Max(curve) >= api.Prime {
					t.Error(l, n, curve, e)
				}
			}
		}
	}
}

func TestCompleteOfShare(t *testing.T) { // P8.4: with the secret, one part fewer tells the curve
	for _, curve := range curves() {
		for _, xs := range someXs(len(curve) - 1) {
			l := partsOf(curve, xs)
			if got, e := secret.Complete(l, curve[0]); !slices.Equal(got, curve) || e != api.OK {
				t.Error(curve, l, got, e)
			}
		}
	}
}
