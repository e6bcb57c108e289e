package weigh_test

import (
	"math"
	"slices"
	"testing"

	"verditer/api"
	"verditer/weigh"
)

func TestMarks(t *testing.T) { // P6.3
	for _, h := range someHouses() {
		marks := marksOf(t, h)
		for lot, m := range marks {
			var want []int
			for _, w := range h.plan {
				side := 0
				if slices.Contains(w.Left, lot) {
					side = 1
				}
				if slices.Contains(w.Right, lot) {
					side = -1
				}
				want = append(want, side)
			}
			if !slices.Equal(m, want) {
				t.Error(h, lot, m, want)
			}
		}
		if p, e := weigh.FromMarks(marks); !areSame(p, h.plan) || e != api.OK {
			t.Error(h, marks, p, e)
		}
	}
}

func TestFromMarksByTheDefinition(t *testing.T) { // P6.3: all marks of at most 3 lots and 2 weighings, and what is not marks
	lists := listsOf(2, -2, 2)
	for _, a := range lists {
		checkFromMarks(t, a)
		for _, b := range lists {
			checkFromMarks(t, a, b)
			for _, c := range lists {
				checkFromMarks(t, a, b, c)
			}
		}
	}
}

// checkFromMarks checks FromMarks of lists that are not too many, and not too long.
func checkFromMarks(t *testing.T, marks ...[]int) {
	t.Helper()
	want := errorOf(marks)
	plan, e := weigh.FromMarks(marks)
	if e != want || e != api.OK && len(plan) != 0 {
		t.Fatal(marks, plan, e, want)
	}
	if e == api.OK && (len(plan) != len(marks[0]) || !areSameLists(marksOf(t, house{len(marks), plan}), marks)) {
		t.Fatal(marks, plan)
	}
}

// errorOf returns the error for lists that are not too many, and not too long.
func errorOf(marks [][]int) api.Errno {
	sums := make([]int, len(marks[0]))
	for _, l := range marks {
		if len(l) != len(sums) || slices.Contains(l, -2) || slices.Contains(l, 2) {
			return api.ErrArg
		}
		for k, n := range l {
			sums[k] += n
		}
	}
	if !isBlank(sums) {
		return api.ErrFit
	}
	return api.OK
}

func TestMarksThatAreNone(t *testing.T) { // P6.3: ErrLarge, ErrArg, ErrFit
	many := func(n int, l ...int) [][]int { return slices.Repeat([][]int{l}, n) }
	for i, c := range []struct {
		marks [][]int
		want  api.Errno
	}{
		{nil, api.ErrLarge},
		{[][]int{}, api.ErrLarge},
		{many(14), api.ErrLarge},
		{many(14, 0, 0), api.ErrLarge},
		{many(1000, 2), api.ErrLarge},
		{[][]int{{0, 0, 0, 0}}, api.ErrLarge},
		{[][]int{{2}, {0, 0}, {0, 0, 0, 0}}, api.ErrLarge},
		{[][]int{{1}, {1}, make([]int, 100)}, api.ErrLarge},
		{[][]int{{1}, nil}, api.ErrArg},
		{[][]int{nil, {0}}, api.ErrArg},
		{[][]int{{0, 0}, {0, 0}, {0}}, api.ErrArg},
		{[][]int{{0, 0}, {0, 0}, {0, 0, 0}}, api.ErrArg},
		{[][]int{{1, 0}, {1}}, api.ErrArg},
		{[][]int{{2}, {-2}}, api.ErrArg},
		{[][]int{{1}, {1}, {-2}}, api.ErrArg},
		{[][]int{{math.MaxInt}, {math.MinInt}, {1}}, api.ErrArg},
		{[][]int{{math.MinInt, 0}, {math.MinInt, 0}}, api.ErrArg},
		{many(13, 0, 0, 1), api.ErrFit},
		{[][]int{{1, 0, 0}, {-1, 0, 0}, {0, 0, -1}}, api.ErrFit},
		{[][]int{{1, 1, 1}}, api.ErrFit},
		{[][]int{{1, -1}, {1, -1}}, api.ErrFit},
		{many(13), api.OK},
		{many(13, 0, 0, 0), api.OK},
		{many(1), api.OK},
	} {
		if p, e := weigh.FromMarks(c.marks); e != c.want || e != api.OK && len(p) != 0 {
			t.Error(i, p, e)
		}
	}
}
