package judge_test

import (
	"math"
	"slices"
	"testing"

	"verditer/api"
	"verditer/judge"
)

// yes is the answer that the grade is one of some.
func yes(named ...int) api.Answer { return api.Answer{Named: named, Yes: true} }

// no is the answer that it is none of them.
func no(named ...int) api.Answer { return api.Answer{Named: named} }

// isSame reports whether the answers are equal; a nil slice is an empty one.
func isSame(l, m []api.Answer) bool {
	return slices.EqualFunc(l, m, func(a, b api.Answer) bool {
		return a.Yes == b.Yes && slices.Equal(a.Named, b.Named)
	})
}

// record is grades and answers.
type record struct {
	grades int
	l      []api.Answer
}

// badRecords has records that are none, with the error of Validate.
func badRecords() map[api.Errno][]record {
	many := make([]api.Answer, api.MaxAsked+1)
	manyBad := slices.Repeat([]api.Answer{yes(9)}, api.MaxAsked+1)
	return map[api.Errno][]record{
		api.ErrArg: {
			{0, nil}, {-1, nil}, {api.MaxGrades + 1, nil}, {math.MaxInt, nil}, {math.MinInt, nil},
			{0, many}, {api.MaxGrades + 1, manyBad}, {0, []api.Answer{yes(0)}},
			{2, []api.Answer{yes(2)}}, {2, []api.Answer{no(2)}}, {2, []api.Answer{yes(-1)}},
			{2, []api.Answer{yes(1, 0)}}, {2, []api.Answer{no(1, 1)}}, {3, []api.Answer{yes(0, 2, 1)}},
			{2, []api.Answer{yes(0), no(1), yes(0, 1, 2)}}, {16, []api.Answer{yes(16)}},
			{2, []api.Answer{yes(math.MinInt)}}, {2, []api.Answer{yes(math.MaxInt)}},
		},
		api.ErrLarge: {{2, many}, {2, manyBad}, {16, many}},
	}
}

// someRecords has records of many kinds, the same ones in each run.
func someRecords() []record {
	records := []record{
		{1, nil}, {2, nil}, {16, nil}, {1, []api.Answer{no()}}, {1, []api.Answer{yes(), yes()}}, {3, []api.Answer{yes(0, 1, 2), no()}},
		{2, slices.Repeat([]api.Answer{yes(0)}, api.MaxAsked)},
	}
	next := numbers()
	for grades := 1; grades <= api.MaxGrades; grades++ {
		for answers := range api.MaxAsked + 1 {
			r := record{grades: grades}
			truth := next(grades)
			for range answers {
				r.l = append(r.l, answerOf(subset(next, grades), truth, next(8) > 0))
			}
			records = append(records, r)
		}
	}
	return records
}

// subset returns some of the grades.
func subset(next func(n int) int, grades int) []int {
	var l []int
	for g := range grades {
		if next(2) == 0 {
			l = append(l, g)
		}
	}
	return l
}

// answerOf returns the answer, true or false, if the grade is truth.
func answerOf(named []int, truth int, honest bool) api.Answer {
	return api.Answer{Named: named, Yes: slices.Contains(named, truth) == honest}
}

// numbers returns a source of numbers below n, the same ones in each run.
func numbers() func(n int) int {
	seed := 1
	return func(n int) int {
		seed = (seed*1103515245 + 12345) % (1 << 31)
		return (seed >> 8) % n
	}
}

// countOf returns how many answers are against a grade, as the document words it.
func countOf(r record, grade int) int {
	n := 0
	for _, a := range r.l {
		named := slices.Contains(a.Named, grade)
		if a.Yes && !named || !a.Yes && named {
			n++
		}
	}
	return n
}

// mostLeft is the most that a and b of a state after a question may be together.
const mostLeft = 2 * api.MaxGrades

// wins tells, for each number of questions and each state, whether so many are enough.
type wins [api.MaxAsked + 1][api.MaxGrades + 1][mostLeft + 1]bool

// allWins computes wins from the definition, by trying all questions.
func allWins() *wins {
	var w wins
	for q := range w {
		for a := range api.MaxGrades + 1 {
			for b := 0; a+b <= mostLeft; b++ {
				w[q][a][b] = a+b <= 1 || q > 0 && w.hasQuestion(a, b, q)
			}
		}
	}
	return &w
}

func (w *wins) hasQuestion(a, b, q int) bool {
	for x := range a + 1 {
		for y := range b + 1 {
			if w.isGood(a, b, x, y, q) {
				return true
			}
		}
	}
	return false
}

// isGood reports whether one question fewer is enough after both answers.
func (w *wins) isGood(a, b, x, y, q int) bool {
	return w[q-1][x][y+a-x] && w[q-1][a-x][b-y+x]
}

// need returns the first number of questions that is enough.
func (w *wins) need(a, b int) int {
	q := 0
	for !w[q][a][b] {
		q++
	}
	return q
}

// eachState calls f with each state that a function may be given.
func eachState(f func(a, b int)) {
	for a := range api.MaxGrades + 1 {
		for b := range api.MaxGrades + 1 {
			f(a, b)
		}
	}
}

func stateOf(t *testing.T, r record) (int, int) {
	t.Helper()
	a, b, e := judge.State(r.grades, r.l)
	if e != api.OK {
		t.Fatal(r, e)
	}
	return a, b
}

func needOf(t *testing.T, a, b int) int {
	t.Helper()
	n, e := judge.Need(a, b)
	if e != api.OK {
		t.Fatal(a, b, e)
	}
	return n
}

func weightOf(t *testing.T, a, b, q int) int {
	t.Helper()
	n, e := judge.Weight(a, b, q)
	if e != api.OK {
		t.Fatal(a, b, q, e)
	}
	return n
}
