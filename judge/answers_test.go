package judge_test

import (
	"math"
	"slices"
	"testing"

	"verditer/api"
	"verditer/judge"
)

func TestTurn(t *testing.T) { // P2.5
	l := []api.Answer{yes(0), no(1, 2), yes(), no(0, 1, 2)}
	want := []api.Answer{no(1, 2), yes(0), no(0, 1, 2), yes()}
	if m, e := judge.Turn(l, 3); !isSame(m, want) || e != api.OK {
		t.Error(m, e)
	}
	for _, r := range someRecords() {
		m, e := judge.Turn(r.l, r.grades)
		if e != api.OK || len(m) != len(r.l) || judge.Validate(r.grades, m) != api.OK {
			t.Fatal(r, m, e)
		}
		for i, a := range m {
			if a.Yes == r.l[i].Yes {
				t.Error(r, m)
			}
		}
		before, _ := judge.Against(r.grades, r.l)
		after, _ := judge.Against(r.grades, m)
		back, _ := judge.Turn(m, r.grades)
		if !slices.Equal(before, after) || !isSame(back, r.l) {
			t.Error(r, m, before, after, back)
		}
	}
}

func TestWithout(t *testing.T) { // P2.5
	l := []api.Answer{yes(0), no(1, 2), yes()}
	for k, want := range [][]api.Answer{{no(1, 2), yes()}, {yes(0), yes()}, {yes(0), no(1, 2)}} {
		if m, e := judge.Without(3, l, k); !isSame(m, want) || e != api.OK {
			t.Error(k, m, e)
		}
	}
	for _, k := range []int{-1, 3, math.MinInt, math.MaxInt} {
		if m, e := judge.Without(3, l, k); len(m) != 0 || e != api.ErrNone {
			t.Error(k, m, e)
		}
	}
	if m, e := judge.Without(3, nil, 0); len(m) != 0 || e != api.ErrNone {
		t.Error(m, e)
	}
	for _, r := range someRecords() {
		before, _ := judge.Against(r.grades, r.l)
		for k := range r.l {
			m, e := judge.Without(r.grades, r.l, k)
			if !isSame(m, slices.Delete(slices.Clone(r.l), k, k+1)) || e != api.OK {
				t.Fatal(r, k, m, e)
			}
			after, _ := judge.Against(r.grades, m)
			for g := range after {
				if n := before[g] - after[g]; n < 0 || n > 1 {
					t.Error(r, k, before, after)
				}
			}
		}
	}
}

func TestRename(t *testing.T) { // P2.5
	l := []api.Answer{yes(0), no(1, 2), yes()}
	for i, c := range []struct {
		to   []int
		want []api.Answer
	}{
		{[]int{0, 1, 2}, l},
		{[]int{0, 2, 1}, l},
		{[]int{2, 0, 1}, []api.Answer{yes(2), no(0, 1), yes()}},
		{[]int{1, 2, 0}, []api.Answer{yes(1), no(0, 2), yes()}},
	} {
		if m, e := judge.Rename(3, l, c.to); !isSame(m, c.want) || e != api.OK {
			t.Error(i, m, e)
		}
	}
	for _, to := range [][]int{nil, {}, {0, 1}, {0, 1, 1}, {0, 1, 3}, {-1, 0, 1}, {1, 2, 3}, {0, 1, 2, 2}, {0, 1, 2, 3}, {0, 1, math.MaxInt}, {0, 1, math.MinInt}} {
		for _, x := range [][]api.Answer{nil, l} {
			if m, e := judge.Rename(3, x, to); len(m) != 0 || e != api.ErrArg {
				t.Error(to, m, e)
			}
		}
	}
}

func TestRenameMovesWhatIsAgainst(t *testing.T) { // P2.5
	next := numbers()
	for _, r := range someRecords() {
		to := make([]int, r.grades)
		for g := range to {
			other := next(g + 1)
			to[g], to[other] = to[other], g
		}
		m, e := judge.Rename(r.grades, r.l, to)
		if e != api.OK || judge.Validate(r.grades, m) != api.OK {
			t.Fatal(r, to, m, e)
		}
		before, _ := judge.Against(r.grades, r.l)
		after, _ := judge.Against(r.grades, m)
		for g := range before {
			if before[g] != after[to[g]] {
				t.Error(r, to, before, after)
			}
		}
	}
}

func TestResultsAreNewMemory(t *testing.T) { // R5
	named, to := []int{0, 1, 2}, []int{2, 0, 1}
	l := []api.Answer{yes(named[:1]...), no(named[1:]...), yes(named...)}
	want := []api.Answer{yes(0), no(1, 2), yes(0, 1, 2)}
	results := func() map[string][]api.Answer {
		turned, _ := judge.Turn(l, 3)
		without, _ := judge.Without(3, l, 0)
		renamed, _ := judge.Rename(3, l, to)
		same, _ := judge.Rename(3, l, []int{0, 1, 2})
		return map[string][]api.Answer{"Turn": turned, "Without": without, "Rename": renamed, "Rename to the same": same}
	}
	first, second := results(), results()
	for name, m := range first {
		for i := range m {
			spoil(m[i].Named)
			if !isSame(m[i+1:], second[name][i+1:]) || !isSame(l, want) {
				t.Error(name, "shares", i, m, l)
			}
		}
		clear(m[:cap(m)])
		if !isSame(l, want) || !slices.Equal(to, []int{2, 0, 1}) {
			t.Error(name, "shares", l, to)
		}
	}
}

// spoil overwrites all memory of a slice.
func spoil(l []int) {
	l = l[:cap(l)]
	for i := range l {
		l[i] = -7
	}
}
