package secret_test

import (
	"slices"
	"testing"

	"verditer/api"
	"verditer/secret"
)

// otherYs returns parts with the same Xs and other Ys.
func otherYs(l []api.Part) []api.Part {
	m := slices.Clone(l)
	for i := range m {
		m[i].Y = (m[i].Y*m[i].Y + 97*i + 250) % api.Prime
	}
	return m
}

func TestAdd(t *testing.T) { // P8.5
	for count := range api.MaxParts + 1 {
		for _, l := range someParts(count) {
			m := otherYs(l)
			sum, e := secret.Add(l, m)
			if e != api.OK || !slices.Equal(xsOf(sum), xsOf(l)) {
				t.Fatal(l, m, sum, e)
			}
			for i, p := range sum {
				if p.Y != (l[i].Y+m[i].Y)%api.Prime {
					t.Error(l, m, sum)
				}
			}
			if 0 < count && count <= api.MaxNeed && secretOf(t, sum) != (secretOf(t, l)+secretOf(t, m))%api.Prime {
				t.Error(l, m, sum)
			}
		}
	}
}

func TestAddOfOtherXs(t *testing.T) { // P8.5, R3
	refused := func(l, m []api.Part) {
		t.Helper()
		for _, pair := range [][2][]api.Part{{l, m}, {m, l}} {
			if sum, e := secret.Add(pair[0], pair[1]); len(sum) != 0 || e != api.ErrFit {
				t.Error(pair, sum, e)
			}
		}
	}
	for count := 1; count <= api.MaxParts; count++ {
		l := someParts(count)[9]
		refused(l, nil)
		for place := range l {
			refused(l, without(l, place))
			other := slices.Clone(l)
			for slices.Contains(xsOf(l), other[place].X) {
				other[place].X = other[place].X%(api.Prime-1) + 1
			}
			refused(l, other)
			for with := range place {
				turned := slices.Clone(l)
				turned[place], turned[with] = turned[with], turned[place]
				refused(l, turned)
			}
		}
	}
}

func TestAddOfBad(t *testing.T) { // P8.1, R2: the errors of the first parts, then those of the second ones, then ErrFit
	bad := badLists()
	for _, l := range bad {
		for _, m := range bad[:12] {
			if sum, e := secret.Add(l.l, m.l); len(sum) != 0 || e != l.want {
				t.Error(l, m, sum, e)
			}
		}
	}
}

func TestScale(t *testing.T) { // P8.5
	for count := range api.MaxParts + 1 {
		for _, l := range someParts(count) {
			for by := 0; by < api.Prime; by += 25 { // 0 and 250 are among them
				scaled, e := secret.Scale(l, by)
				if e != api.OK || !slices.Equal(xsOf(scaled), xsOf(l)) {
					t.Fatal(l, by, scaled, e)
				}
				for i, p := range scaled {
					if p.Y != l[i].Y*by%api.Prime {
						t.Error(l, by, scaled)
					}
				}
				if 0 < count && count <= api.MaxNeed && secretOf(t, scaled) != secretOf(t, l)*by%api.Prime {
					t.Error(l, by, scaled)
				}
			}
		}
	}
}

func TestRenew(t *testing.T) { // P8.5, R3
	for count := range api.MaxParts + 1 {
		for _, l := range someParts(count) {
			for _, curve := range curves() {
				renewed, e := secret.Renew(l, curve)
				if curve[0] != 0 {
					if len(renewed) != 0 || e != api.ErrRule {
						t.Error(l, curve, renewed, e)
					}
					continue
				}
				if e != api.OK || !slices.Equal(xsOf(renewed), xsOf(l)) {
					t.Fatal(l, curve, renewed, e)
				}
				for i, p := range renewed {
					if p.Y != (l[i].Y+valueAt(curve, p.X))%api.Prime {
						t.Error(l, curve, renewed)
					}
				}
				if len(curve) <= count && count <= api.MaxNeed && secretOf(t, renewed) != secretOf(t, l) {
					t.Error(l, curve, renewed)
				}
			}
		}
	}
}

func TestRenewOfShare(t *testing.T) { // P8.5, S8: the new parts tell the same secret, any so many of them
	curve := []int{99, 4, 250}
	renewed, e := secret.Renew(shareOf(t, curve, api.MaxParts), []int{0, 17, 1})
	if e != api.OK {
		t.Fatal(e)
	}
	for _, l := range subsets(renewed, 3) {
		if got := curveOf(t, l); !slices.Equal(got, []int{99, 21, 0}) {
			t.Error(l, got)
		}
	}
}

func TestWeights(t *testing.T) { // P8.5
	for count := 1; count <= api.MaxNeed; count++ {
		for _, xs := range someXs(count) {
			w, e := secret.Weights(xs)
			if e != api.OK || len(w) != count || slices.Min(w) < 0 || slices.Max(w) >= api.Prime {
				t.Fatal(xs, w, e)
			}
			for power := range count { // the secret of the curve x to a power is 1 if the power is 0, and 0 otherwise
				curve := make([]int, count)
				curve[power] = 1
				if got := weighed(w, partsOf(curve, xs)); got != curve[0] {
					t.Error(xs, w, power, got)
				}
			}
			for _, curve := range curvesOf(count) {
				if l := partsOf(curve, xs); weighed(w, l) != secretOf(t, l) {
					t.Error(xs, w, l)
				}
			}
		}
	}
}

// weighed returns the sum of the Ys, each times its weight.
func weighed(weights []int, l []api.Part) int {
	sum := 0
	for i, p := range l {
		sum += weights[i] * p.Y
	}
	return sum % api.Prime
}
