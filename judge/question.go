package judge

import "verditer/api"

// After returns the state after an answer to the question that names x and y.
func After(a, b, x, y int, yes bool) (int, int, api.Errno) {
	s, e := afterOf(a, b, x, y, yes)
	return s.a, s.b, e
}

// Weight returns the weight of a state with so many questions to come.
func Weight(a, b, questions int) (int, api.Errno) {
	if e := validateAsked(a, b, questions); e != api.OK {
		return 0, e
	}
	return state{a, b}.weight(questions), api.OK
}

// Enough reports whether so many questions are enough for a state.
func Enough(a, b, questions int) (bool, api.Errno) {
	if e := validateAsked(a, b, questions); e != api.OK {
		return false, e
	}
	return isEnough(state{a, b}, questions), api.OK
}

// Need returns the smallest number of questions that are enough for a state.
func Need(a, b int) (int, api.Errno) {
	if e := validateState(a, b); e != api.OK {
		return 0, e
	}
	return need(state{a, b}), api.OK
}

// CheckQuestion checks that after both answers to a question one question fewer is enough.
func CheckQuestion(a, b, x, y, questions int) api.Errno {
	if e := validateAsked(a, b, questions); e != api.OK {
		return e
	}
	if questions == 0 {
		return api.ErrArg
	}
	for _, yes := range []bool{true, false} {
		s, e := afterOf(a, b, x, y, yes)
		if e != api.OK {
			return e
		}
		if !isEnough(s, questions-1) {
			return api.ErrProof
		}
	}
	return api.OK
}

// Question returns a question that CheckQuestion accepts, and whether one is needed and can be found.
func Question(a, b, questions int) (int, int, bool, api.Errno) {
	if e := validateAsked(a, b, questions); e != api.OK {
		return 0, 0, false, e
	}
	s := state{a, b}
	if s.isSettled() {
		return 0, 0, false, api.OK
	}
	q := find(s, questions)
	return q.x, q.y, q.ok, api.OK
}

// Bound returns the smallest number of questions that the weight of a state does not forbid.
func Bound(a, b int) (int, api.Errno) {
	if e := validateState(a, b); e != api.OK {
		return 0, e
	}
	questions := 0
	for (state{a, b}).isTooHeavy(questions) {
		questions++
	}
	return questions, api.OK
}

// validateState tells whether a and b are those of a state.
func validateState(a, b int) api.Errno {
	if a < 0 || a > api.MaxGrades || b < 0 || b > api.MaxGrades {
		return api.ErrArg
	}
	return api.OK
}

// validateAsked is validateState, and ErrArg if there cannot be so many questions.
func validateAsked(a, b, questions int) api.Errno {
	if e := validateState(a, b); e != api.OK {
		return e
	}
	if questions < 0 || questions > api.MaxAsked {
		return api.ErrArg
	}
	return api.OK
}

// afterOf is After, with the state as one value.
func afterOf(a, b, x, y int, yes bool) (state, api.Errno) {
	if e := validateState(a, b); e != api.OK {
		return state{}, e
	}
	if x < 0 || x > a || y < 0 || y > b {
		return state{}, api.ErrRule
	}
	return state{a, b}.after(x, y, yes), api.OK
}
