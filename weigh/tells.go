package weigh

import "verditer/api"

// Tells reports whether no two cases have the same answers, and none has the blank ones.
func Tells(lots int, plan []api.Weighing) (bool, api.Errno) {
	_, _, bad, e := Bad(lots, plan)
	return e == api.OK && !bad, e
}

// CheckBad checks two cases as a proof that a plan does not tell.
func CheckBad(lots int, plan []api.Weighing, c, d api.Case) api.Errno {
	if e := validateCases(lots, plan, c, d); e != api.OK {
		return e
	}
	if !isBad(marksOf(lots, plan), c, d) {
		return api.ErrProof
	}
	return api.OK
}

// Bad returns two cases that CheckBad accepts, and whether there are any.
func Bad(lots int, plan []api.Weighing) (api.Case, api.Case, bool, api.Errno) {
	if e := Validate(lots, plan); e != api.OK {
		return api.Case{}, api.Case{}, false, e
	}
	marks, cases := marksOf(lots, plan), allCases(lots)
	for i, c := range cases {
		for _, d := range cases[i:] {
			if isBad(marks, c, d) {
				return c, d, true, api.OK
			}
		}
	}
	return api.Case{}, api.Case{}, false, api.OK
}

// isBad reports whether two different cases have the same answers, or twice the same one has the blank ones.
func isBad(marks []mark, c, d api.Case) bool {
	if c == d {
		return answersTo(marks, c) == blank()
	}
	return answersTo(marks, c) == answersTo(marks, d)
}
