package feud

import "verditer/api"

// Drop returns the shop without the feud k.
func Drop(s api.Shop, k int) (api.Shop, api.Errno) {
	if e := validateFeud(s, k); e != api.OK {
		return api.Shop{}, e
	}
	out := api.Shop{Paints: s.Paints}
	for i, f := range s.Feuds {
		if i != k {
			out.Feuds = append(out.Feuds, f)
		}
	}
	return out, api.OK
}

// Merge returns the shop in which the two paints of the feud k are one.
func Merge(s api.Shop, k int) (api.Shop, api.Errno) {
	if e := validateFeud(s, k); e != api.OK {
		return api.Shop{}, e
	}
	in := shop{s.Paints - 1, map[api.Feud]bool{}}
	for _, f := range s.Feuds {
		a, b := merged(f.A, s.Feuds[k]), merged(f.B, s.Feuds[k])
		in.feuds[api.Feud{A: min(a, b), B: max(a, b)}] = true // the feud k is one of a paint with itself: not written
	}
	return in.written(true), api.OK
}

// Opposite returns the shop in which just those paints have a feud that have none here.
func Opposite(s api.Shop) (api.Shop, api.Errno) {
	if e := Validate(s); e != api.OK {
		return api.Shop{}, e
	}
	return shopOf(s).written(false), api.OK
}

// validateFeud is Validate, and ErrNone if there is no feud k.
func validateFeud(s api.Shop, k int) api.Errno {
	if e := Validate(s); e != api.OK {
		return e
	}
	if k < 0 || k >= len(s.Feuds) {
		return api.ErrNone
	}
	return api.OK
}

// merged returns the number of a paint when the two of a feud are one.
func merged(paint int, f api.Feud) int {
	switch {
	case paint == f.B:
		return f.A
	case paint > f.B:
		return paint - 1
	}
	return paint
}

// written returns the shop in which, in ascending order, the paints have a feud that have one here (with a feud),
// or have none here (without).
func (in shop) written(with bool) api.Shop {
	out := api.Shop{Paints: in.paints}
	for a := range in.paints {
		for b := a + 1; b < in.paints; b++ {
			if in.has(a, b) == with {
				out.Feuds = append(out.Feuds, api.Feud{A: a, B: b})
			}
		}
	}
	return out
}
