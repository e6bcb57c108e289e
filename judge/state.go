package judge

// state is how many grades have no answer against them, and how many have one.
type state struct {
	a, b int
}

// question is how many of either kind of grades a question names, and whether there is a question.
type question struct {
	x, y int
	ok   bool
}

// asked is a state with a number of questions to come.
type asked struct {
	state
	questions int
}

// stateOf returns the state of grades with so many answers against each.
func stateOf(counts []int) state {
	var s state
	for _, n := range counts {
		switch n {
		case 0:
			s.a++
		case 1:
			s.b++
		}
	}
	return s
}

// isSettled reports whether at most one grade is left.
func (s state) isSettled() bool {
	return s.a+s.b <= 1
}

// after returns the state after an answer to the question that names x and y.
func (s state) after(x, y int, yes bool) state {
	if yes {
		return state{x, y + s.a - x}
	}
	return state{s.a - x, s.b - y + x}
}

// weight counts in how many ways the answers to come may be false, over all grades that are left.
func (s state) weight(questions int) int {
	return s.a*(questions+1) + s.b
}

// isTooHeavy reports whether the weight forbids that so many questions are enough:
// the weights after yes and after no add up to it, and in the end none may be above 1.
func (s state) isTooHeavy(questions int) bool {
	return s.weight(questions) > 1<<questions
}

// isEnough reports whether so many questions are enough for a state.
func isEnough(s state, questions int) bool {
	return s.isSettled() || find(s, questions).ok
}

// need returns the smallest number of questions that are enough for a state.
func need(s state) int {
	questions := 0
	for !isEnough(s, questions) {
		questions++
	}
	return questions
}

// find returns a question to a state that is not settled, after both of whose answers one question fewer is enough.
func find(s state, questions int) question {
	known := map[asked]question{}
	var seek func(s state, questions int) question
	seek = func(s state, questions int) question {
		if s.isTooHeavy(questions) {
			return question{}
		}
		at := asked{s, questions}
		if q, is := known[at]; is {
			return q
		}
		q := s.first(func(after state) bool {
			return after.isSettled() || seek(after, questions-1).ok
		})
		known[at] = q
		return q
	}
	return seek(s, questions)
}

// first returns the first question after both of whose answers the state is good.
// It begins with those that halve a, since these mostly are the best ones;
// those that name more than the half of a are the same with yes and no exchanged.
func (s state) first(isGood func(after state) bool) question {
	half := s.a / 2
	for less := range half + 1 {
		x := half - less
		for y := range s.b + 1 {
			if isGood(s.after(x, y, true)) && isGood(s.after(x, y, false)) {
				return question{x, y, true}
			}
		}
	}
	return question{}
}
