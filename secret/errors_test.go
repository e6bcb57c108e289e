package secret_test

import (
	"math"
	"slices"
	"testing"

	"verditer/api"
	"verditer/secret"
)

// others are the arguments beside parts.
type others struct {
	x, need, secret, by int
	curve               []int
}

func goodOthers() others { return others{1, 1, 0, 0, []int{0}} }

// badOthers are all refused with ErrArg, but the curve with ErrLarge.
func badOthers() others { return others{api.Prime, 0, -1, api.Prime, nil} }

// call is one of a function with parts: whether all results but the error are zero, and the error.
type call func(l []api.Part) (bool, api.Errno)

// withParts has a call of each function with parts.
func withParts(o others) map[string]call {
	list := func(l []api.Part, e api.Errno) (bool, api.Errno) { return len(l) == 0, e }
	return map[string]call{
		"Curve":  func(l []api.Part) (bool, api.Errno) { c, e := secret.Curve(l); return len(c) == 0, e },
		"Secret": func(l []api.Part) (bool, api.Errno) { n, e := secret.Secret(l); return n == 0, e },
		"Part":   func(l []api.Part) (bool, api.Errno) { p, e := secret.Part(l, o.x); return p == api.Part{}, e },
		"LieOn":  func(l []api.Part) (bool, api.Errno) { ok, e := secret.LieOn(l, o.need); return !ok, e },
		"Wrong": func(l []api.Part) (bool, api.Errno) {
			place, ok, e := secret.Wrong(l, o.need)
			return place == 0 && !ok, e
		},
		"Repair": func(l []api.Part) (bool, api.Errno) {
			m, ok, e := secret.Repair(l, o.need)
			return len(m) == 0 && !ok, e
		},
		"Complete": func(l []api.Part) (bool, api.Errno) {
			c, e := secret.Complete(l, o.secret)
			return len(c) == 0, e
		},
		"Add to":  func(l []api.Part) (bool, api.Errno) { return list(secret.Add(l, []api.Part{{X: 0}})) },
		"Add":     func(l []api.Part) (bool, api.Errno) { return list(secret.Add([]api.Part{{X: 9, Y: 9}}, l)) },
		"Scale":   func(l []api.Part) (bool, api.Errno) { return list(secret.Scale(l, o.by)) },
		"Renew":   func(l []api.Part) (bool, api.Errno) { return list(secret.Renew(l, o.curve)) },
		"Without": func(l []api.Part) (bool, api.Errno) { return list(secret.Without(l, o.x)) },
	}
}

func TestValidate(t *testing.T) { // P8.1
	for count := range api.MaxParts + 1 {
		for _, l := range someParts(count) {
			if e := secret.Validate(l); e != api.OK {
				t.Error(l, e)
			}
		}
	}
	for _, n := range allNumbers() {
		if e := secret.Validate([]api.Part{{X: max(n, 1), Y: n}}); e != api.OK {
			t.Error(n, e)
		}
	}
	for _, b := range badLists() {
		if e := secret.Validate(b.l); e != b.want {
			t.Error(b, e)
		}
	}
}

func TestPartsThatAreNone(t *testing.T) { // P8.1, R2, R3: before the errors of the other arguments
	for _, b := range badLists() {
		for _, o := range []others{goodOthers(), badOthers()} {
			for name, f := range withParts(o) {
				if zero, e := f(b.l); !zero || e != b.want {
					t.Error(name, b, o, zero, e)
				}
			}
		}
	}
}

func TestOthersThatAreNone(t *testing.T) { // P8.1, R3: x, need, secret and by, before what else is wrong
	check := func(names []string, o others) {
		t.Helper()
		calls := withParts(o)
		for count := range api.MaxParts + 1 {
			for _, l := range someParts(count) {
				for _, name := range names {
					if zero, e := calls[name](l); !zero || e != api.ErrArg {
						t.Error(name, l, o, zero, e)
					}
				}
			}
		}
	}
	for _, x := range notXs() {
		o := goodOthers()
		o.x = x
		check([]string{"Part", "Without"}, o)
	}
	for _, need := range notNeeds() {
		o := goodOthers()
		o.need = need
		check([]string{"LieOn", "Wrong", "Repair"}, o)
	}
	for _, n := range notNumbers() {
		o := goodOthers()
		o.secret, o.by = n, n
		check([]string{"Complete", "Scale"}, o)
	}
}

func TestCurvesThatAreNone(t *testing.T) { // P8.1, R3: before the x and the number of parts; Renew also before ErrRule
	for _, b := range badCurves() {
		for _, n := range []int{math.MinInt, -1, 0, 1, 5, api.Prime, math.MaxInt} {
			if y, e := secret.At(b.curve, n); y != 0 || e != b.want {
				t.Error(b, n, y, e)
			}
			if l, e := secret.Share(b.curve, n); len(l) != 0 || e != b.want {
				t.Error(b, n, l, e)
			}
		}
		for _, count := range []int{0, 1, 6, api.MaxParts} {
			if l, e := secret.Renew(someParts(count)[0], b.curve); len(l) != 0 || e != b.want {
				t.Error(b, count, l, e)
			}
		}
	}
}

func TestNumbersThatAreNone(t *testing.T) { // P8.1, R3: At, Share and Inverse
	for _, curve := range curves() {
		for _, x := range notNumbers() {
			if y, e := secret.At(curve, x); y != 0 || e != api.ErrArg {
				t.Error(curve, x, y, e)
			}
		}
		for _, parts := range []int{math.MinInt, -1, 0, api.MaxParts + 1, api.MaxParts + 2, math.MaxInt} {
			if l, e := secret.Share(curve, parts); len(l) != 0 || e != api.ErrArg {
				t.Error(curve, parts, l, e)
			}
		}
	}
	for _, a := range notXs() {
		if n, e := secret.Inverse(a); n != 0 || e != api.ErrArg {
			t.Error(a, n, e)
		}
	}
}

func TestTooFewOrManyParts(t *testing.T) { // P8.2, P8.3, P8.4, R3
	for count := range api.MaxParts + 1 {
		for _, l := range someParts(count) {
			want := map[string]api.Errno{}
			switch {
			case count == 0:
				want["Curve"], want["Secret"], want["Part"] = api.ErrNone, api.ErrNone, api.ErrNone
			case count > api.MaxNeed:
				want["Curve"], want["Secret"], want["Part"] = api.ErrLarge, api.ErrLarge, api.ErrLarge
			}
			if count >= api.MaxNeed {
				want["Complete"] = api.ErrLarge
			}
			for need := 1; need <= api.MaxNeed; need++ {
				want["Wrong"], want["Repair"] = api.OK, api.OK
				if count < need+2 {
					want["Wrong"], want["Repair"] = api.ErrShort, api.ErrShort
				}
				o := goodOthers()
				o.need = need
				calls := withParts(o)
				for _, name := range []string{"Curve", "Secret", "Part", "Complete", "LieOn", "Wrong", "Repair"} {
					if zero, e := calls[name](l); e != want[name] || e != api.OK && !zero {
						t.Error(name, l, need, zero, e)
					}
				}
			}
		}
	}
}

func TestErrorsOfWeights(t *testing.T) { // P8.5, R3
	refused := func(xs []int, want api.Errno) {
		t.Helper()
		if w, e := secret.Weights(xs); len(w) != 0 || e != want {
			t.Error(xs, w, e)
		}
	}
	for _, count := range []int{0, api.MaxNeed + 1, api.MaxNeed + 2, 1000} {
		for _, x := range []int{-1, 0, 1, api.Prime} {
			refused(slices.Repeat([]int{x}, count), api.ErrLarge)
		}
	}
	for count := 1; count <= api.MaxNeed; count++ {
		for place := range count {
			for _, x := range notXs() {
				xs := slices.Repeat([]int{4}, count) // mostly there are two that are the same, too
				xs[place] = x
				refused(xs, api.ErrArg)
			}
			for other := range place {
				xs := someXs(count)[2]
				xs[place] = xs[other]
				refused(xs, api.ErrTwice)
			}
		}
	}
}

func TestNewMemory(t *testing.T) { // R5: results share no memory with arguments, and no argument is changed
	parts := partsOf([]int{0, 3}, someXs(5)[2])
	curve := []int{0, 3}
	lists := map[string]func(l []api.Part, curve []int) ([]api.Part, api.Errno){
		"Share": func(_ []api.Part, curve []int) ([]api.Part, api.Errno) { return secret.Share(curve, 5) },
		"Repair all": func(l []api.Part, _ []int) ([]api.Part, api.Errno) {
			m, _, e := secret.Repair(l, 2)
			return m, e
		},
		"Repair one": func(l []api.Part, _ []int) ([]api.Part, api.Errno) {
			m, _, e := secret.Repair(falsified(l, 1, 1), 2)
			return m, e
		},
		"Add":   func(l []api.Part, _ []int) ([]api.Part, api.Errno) { return secret.Add(l, l) },
		"Scale": func(l []api.Part, _ []int) ([]api.Part, api.Errno) { return secret.Scale(l, 1) },
		"Renew": func(l []api.Part, curve []int) ([]api.Part, api.Errno) { return secret.Renew(l, curve) },
		"Renew by nothing": func(l []api.Part, _ []int) ([]api.Part, api.Errno) {
			return secret.Renew(l, []int{0})
		},
		"Without first": func(l []api.Part, _ []int) ([]api.Part, api.Errno) { return secret.Without(l, l[0].X) },
		"Without":       func(l []api.Part, _ []int) ([]api.Part, api.Errno) { return secret.Without(l, l[2].X) },
		"Without last":  func(l []api.Part, _ []int) ([]api.Part, api.Errno) { return secret.Without(l, l[4].X) },
	}
	for name, f := range lists {
		l, c := slices.Clone(parts), slices.Clone(curve)
		made, e := f(l, c)
		kept := slices.Clone(made)
		again, _ := f(l, c)
		if e != api.OK || !slices.Equal(l, parts) || !slices.Equal(c, curve) || !slices.Equal(again, kept) {
			t.Error(name, l, c, made, again, e)
		}
		clear(again[:cap(again)])
		if !slices.Equal(l, parts) || !slices.Equal(c, curve) || !slices.Equal(made, kept) {
			t.Error(name, "shares memory", l, c, made)
		}
		clear(l)
		clear(c)
		if !slices.Equal(made, kept) {
			t.Error(name, "shares memory", made)
		}
	}
}

func TestNewMemoryOfNumbers(t *testing.T) { // R5: Curve, Complete and Weights; no argument of the other ones is changed
	parts := partsOf([]int{7, 3}, someXs(5)[2])
	lists := map[string]func(l []api.Part, xs []int) ([]int, api.Errno){
		"Curve":    func(l []api.Part, _ []int) ([]int, api.Errno) { return secret.Curve(l) },
		"Complete": func(l []api.Part, _ []int) ([]int, api.Errno) { return secret.Complete(l, 9) },
		"Weights":  func(_ []api.Part, xs []int) ([]int, api.Errno) { return secret.Weights(xs) },
		"Weights of one": func(_ []api.Part, xs []int) ([]int, api.Errno) {
			return secret.Weights(xs[:1:1])
		},
	}
	for name, f := range lists {
		l, xs := slices.Clone(parts), xsOf(parts)
		made, e := f(l, xs)
		kept := slices.Clone(made)
		again, _ := f(l, xs)
		if e != api.OK || !slices.Equal(again, kept) {
			t.Error(name, made, again, e)
		}
		clear(again[:cap(again)])
		if !slices.Equal(l, parts) || !slices.Equal(xs, xsOf(parts)) || !slices.Equal(made, kept) {
			t.Error(name, "shares memory", l, xs, made)
		}
	}
	l := falsified(parts, 3, 1)
	kept := slices.Clone(l)
	secret.Validate(l)
	secret.LieOn(l, 2)
	secret.Wrong(l, 2)
	secret.Secret(l)
	secret.Part(l, 200)
	if !slices.Equal(l, kept) {
		t.Error("the parts were changed", l, kept)
	}
}
