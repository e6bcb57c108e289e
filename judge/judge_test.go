package judge_test

import (
	"math"
	"slices"
	"testing"

	"verditer/api"
	"verditer/judge"
)

func TestValidate(t *testing.T) { // P2.1
	for _, r := range someRecords() {
		if e := judge.Validate(r.grades, r.l); e != api.OK {
			t.Error(r, e)
		}
	}
	for want, records := range badRecords() {
		for _, r := range records {
			if e := judge.Validate(r.grades, r.l); e != want {
				t.Error(r, e, want)
			}
		}
	}
	for _, r := range []record{{1, []api.Answer{}}, {2, []api.Answer{yes([]int{}...)}}, {16, []api.Answer{no(0, 15), yes(0, 1, 2, 3, 4, 5, 6, 7, 8, 9, 10, 11, 12, 13, 14, 15)}}} {
		if e := judge.Validate(r.grades, r.l); e != api.OK {
			t.Error(r, e)
		}
	}
}

func TestErrorsOfValidateComeFirst(t *testing.T) { // P2.1, R2, R3: all other arguments are wrong too
	for want, records := range badRecords() {
		for _, r := range records {
			for name, call := range map[string]func() (bool, api.Errno){
				"Against": func() (bool, api.Errno) { l, e := judge.Against(r.grades, r.l); return len(l) == 0, e },
				"Left":    func() (bool, api.Errno) { l, e := judge.Left(r.grades, r.l, -1); return len(l) == 0, e },
				"Grade":   func() (bool, api.Errno) { g, ok, e := judge.Grade(r.grades, r.l); return g == 0 && !ok, e },
				"State":   func() (bool, api.Errno) { a, b, e := judge.State(r.grades, r.l); return a == 0 && b == 0, e },
				"Next":    func() (bool, api.Errno) { l, ok, e := judge.Next(r.grades, r.l); return len(l) == 0 && !ok, e },
				"Turn":    func() (bool, api.Errno) { l, e := judge.Turn(r.l, r.grades); return len(l) == 0, e },
				"Without": func() (bool, api.Errno) { l, e := judge.Without(r.grades, r.l, -1); return len(l) == 0, e },
				"Rename":  func() (bool, api.Errno) { l, e := judge.Rename(r.grades, r.l, []int{7}); return len(l) == 0, e },
			} {
				if zero, e := call(); !zero || e != want {
					t.Error(name, r, zero, e, want)
				}
			}
		}
	}
}

func TestAgainst(t *testing.T) { // P2.2
	for i, c := range []struct {
		r    record
		want []int
	}{
		{record{2, []api.Answer{yes(0), yes(0)}}, []int{0, 2}},
		{record{2, []api.Answer{yes(0), no(0)}}, []int{1, 1}},
		{record{3, nil}, []int{0, 0, 0}},
		{record{3, []api.Answer{yes()}}, []int{1, 1, 1}},
		{record{3, []api.Answer{no()}}, []int{0, 0, 0}},
		{record{3, []api.Answer{yes(0, 1, 2)}}, []int{0, 0, 0}},
		{record{3, []api.Answer{no(0, 1, 2)}}, []int{1, 1, 1}},
		{record{3, []api.Answer{no(0, 1), yes(2), yes(1, 2)}}, []int{3, 2, 0}},
		{record{1, slices.Repeat([]api.Answer{no(0)}, 12)}, []int{12}},
	} {
		if l, e := judge.Against(c.r.grades, c.r.l); !slices.Equal(l, c.want) || e != api.OK {
			t.Error(i, l, e)
		}
	}
	for _, r := range someRecords() {
		l, e := judge.Against(r.grades, r.l)
		if len(l) != r.grades || e != api.OK {
			t.Fatal(r, l, e)
		}
		for g, n := range l {
			if n != countOf(r, g) {
				t.Error(r, g, n)
			}
		}
	}
}

func TestLeft(t *testing.T) { // P2.2
	for _, r := range someRecords() {
		for lies := range api.MaxAsked + 1 {
			var want []int
			for g := range r.grades {
				if countOf(r, g) <= lies {
					want = append(want, g)
				}
			}
			if l, e := judge.Left(r.grades, r.l, lies); !slices.Equal(l, want) || e != api.OK {
				t.Error(r, lies, l, e, want)
			}
		}
		for _, lies := range []int{-1, 13, math.MinInt, math.MaxInt} {
			if l, e := judge.Left(r.grades, r.l, lies); len(l) != 0 || e != api.ErrArg {
				t.Error(r, lies, l, e)
			}
		}
	}
}

func TestGradeAndState(t *testing.T) { // P2.2
	for i, c := range []struct {
		r     record
		grade int
		ok    bool
		a, b  int
	}{
		{record{2, []api.Answer{yes(0), yes(0)}}, 0, true, 1, 0},
		{record{2, []api.Answer{yes(0), no(0)}}, 0, false, 0, 2},
		{record{2, []api.Answer{yes(1), yes(1), no(1)}}, 1, true, 0, 1},
		{record{3, []api.Answer{yes(), yes()}}, 0, false, 0, 0},
		{record{1, nil}, 0, true, 1, 0},
		{record{16, nil}, 0, false, 16, 0},
		{record{3, []api.Answer{yes(0)}}, 0, false, 1, 2},
	} {
		g, ok, e := judge.Grade(c.r.grades, c.r.l)
		a, b := stateOf(t, c.r)
		if g != c.grade || ok != c.ok || e != api.OK || a != c.a || b != c.b {
			t.Error(i, g, ok, e, a, b)
		}
	}
	for _, r := range someRecords() {
		var counts [api.MaxAsked + 1]int
		alone := 0
		for g := range r.grades {
			n := countOf(r, g)
			counts[n]++
			if n <= 1 {
				alone = g
			}
		}
		is := counts[0]+counts[1] == 1
		if !is {
			alone = 0
		}
		g, ok, e := judge.Grade(r.grades, r.l)
		a, b := stateOf(t, r)
		if g != alone || ok != is || e != api.OK || a != counts[0] || b != counts[1] {
			t.Error(r, g, ok, e, a, b)
		}
	}
}

func TestAnswersAgainstNoGradeChangeNoState(t *testing.T) { // P2.2
	for _, r := range someRecords() {
		if len(r.l) == api.MaxAsked {
			continue
		}
		all := make([]int, r.grades)
		for g := range all {
			all[g] = g
		}
		a, b := stateOf(t, r)
		for _, x := range []api.Answer{yes(all...), no()} {
			if c, d := stateOf(t, record{r.grades, append(slices.Clone(r.l), x)}); c != a || d != b {
				t.Error(r, a, b, c, d)
			}
		}
	}
}

func TestNext(t *testing.T) { // P2.4
	for _, r := range someRecords() {
		if len(r.l) < api.MaxAsked {
			checkNext(t, r)
		}
	}
}

// checkNext checks the set that Next asks for: it is the same each time, and after both answers the need is smaller.
func checkNext(t *testing.T, r record) []int {
	t.Helper()
	set, ok, e := judge.Next(r.grades, r.l)
	a, b := stateOf(t, r)
	if ok != (a+b > 1) || e != api.OK || !ok && len(set) != 0 {
		t.Fatal(r, set, ok, e)
	}
	if again, _, _ := judge.Next(r.grades, r.l); !slices.Equal(set, again) { // R11
		t.Error(r, set, again)
	}
	for _, x := range []api.Answer{yes(set...), no(set...)} {
		c, d := stateOf(t, record{r.grades, append(slices.Clone(r.l), x)})
		if ok && needOf(t, c, d) >= needOf(t, a, b) {
			t.Error(r, x, a, b, c, d)
		}
	}
	return set
}

func TestNextAfterAllAnswers(t *testing.T) { // P2.4
	for _, r := range []record{
		{2, slices.Repeat([]api.Answer{yes(0)}, api.MaxAsked)}, // one grade is left
		{2, slices.Repeat([]api.Answer{yes(0, 1)}, api.MaxAsked)},
		{2, slices.Repeat([]api.Answer{yes()}, api.MaxAsked)}, // none
	} {
		if set, ok, e := judge.Next(r.grades, r.l); len(set) != 0 || ok || e != api.ErrState {
			t.Error(r, set, ok, e)
		}
		checkNext(t, record{r.grades, r.l[1:]})
	}
}

// TestNextFindsTheGrade asks on until the grade is known, with each answer false once, or none.
func TestNextFindsTheGrade(t *testing.T) { // P2.4, P2.3
	for grades := 1; grades <= api.MaxGrades; grades++ {
		most := needOf(t, grades, 0)
		for truth := range grades {
			for lie := range most + 1 {
				r := record{grades: grades}
				for a, b := grades, 0; a+b > 1; a, b = stateOf(t, r) {
					r.l = append(r.l, answerOf(checkNext(t, r), truth, len(r.l) != lie))
				}
				if g, ok, e := judge.Grade(grades, r.l); g != truth || !ok || e != api.OK || len(r.l) > most {
					t.Fatal(grades, truth, lie, r.l, g, ok, e)
				}
			}
		}
	}
}
