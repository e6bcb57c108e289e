package secret

import "verditer/api"

// Add returns the parts with the Ys added.
func Add(l, m []api.Part) ([]api.Part, api.Errno) {
	if e := Validate(l); e != api.OK {
		return nil, e
	}
	if e := Validate(m); e != api.OK {
		return nil, e
	}
	if !haveSameXs(l, m) {
		return nil, api.ErrFit
	}
	var out []api.Part
	for i, p := range l {
		out = append(out, api.Part{X: p.X, Y: modulo(p.Y + m[i].Y)})
	}
	return out, api.OK
}

// Scale returns the parts with all Ys multiplied.
func Scale(l []api.Part, by int) ([]api.Part, api.Errno) {
	if e := validateAnd(l, isNumber(by)); e != api.OK {
		return nil, e
	}
	var out []api.Part
	for _, p := range l {
		out = append(out, api.Part{X: p.X, Y: modulo(p.Y * by)})
	}
	return out, api.OK
}

// Renew returns the parts with the curve at its X added to each Y.
func Renew(l []api.Part, curve []int) ([]api.Part, api.Errno) {
	if e := Validate(l); e != api.OK {
		return nil, e
	}
	if e := validateCurve(curve); e != api.OK {
		return nil, e
	}
	if curve[0] != 0 {
		return nil, api.ErrRule
	}
	var m []api.Part
	for _, p := range l {
		m = append(m, polynomial(curve).part(p.X))
	}
	return Add(l, m)
}

// Weights returns by which numbers to multiply the Ys of parts with these Xs, so that the products add up to the secret.
func Weights(xs []int) ([]int, api.Errno) {
	if !isNeed(len(xs)) {
		return nil, api.ErrLarge
	}
	if e := validateXs(xs); e != api.OK {
		return nil, e
	}
	var parts []part
	for _, x := range xs {
		parts = append(parts, shared{X: x, Y: 1})
	}
	var weights []int
	for which := range parts {
		weights = append(weights, term(parts, which).at(0))
	}
	return weights, api.OK
}

// haveSameXs reports whether l and m have the same Xs in the same order.
func haveSameXs(l, m []api.Part) bool {
	if len(l) != len(m) {
		return false
	}
	for i, p := range l {
		if p.X != m[i].X {
			return false
		}
	}
	return true
}
