package judge_test

import (
	"math"
	"testing"

	"verditer/api"
	"verditer/judge"
)

func TestNumbersThatAreNone(t *testing.T) { // P2.1, R3
	for _, n := range []int{-1, 17, math.MinInt, math.MaxInt} {
		for _, s := range [][2]int{{n, 0}, {0, n}, {n, n}} {
			for _, q := range []int{0, 3, 13} {
				checkRefused(t, s[0], s[1], q)
			}
			if c, d, e := judge.After(s[0], s[1], -1, -1, true); c != 0 || d != 0 || e != api.ErrArg {
				t.Error(s, c, d, e)
			}
			if m, e := judge.Need(s[0], s[1]); m != 0 || e != api.ErrArg {
				t.Error(s, m, e)
			}
			if m, e := judge.Bound(s[0], s[1]); m != 0 || e != api.ErrArg {
				t.Error(s, m, e)
			}
		}
	}
	for _, q := range []int{-1, 13, math.MinInt, math.MaxInt} {
		checkRefused(t, 0, 0, q)
		checkRefused(t, 16, 16, q)
	}
}

// checkRefused checks that the functions with a number of questions return ErrArg.
func checkRefused(t *testing.T, a, b, q int) {
	t.Helper()
	if n, e := judge.Weight(a, b, q); n != 0 || e != api.ErrArg {
		t.Error(a, b, q, n, e)
	}
	if ok, e := judge.Enough(a, b, q); ok || e != api.ErrArg {
		t.Error(a, b, q, ok, e)
	}
	if x, y, ok, e := judge.Question(a, b, q); x != 0 || y != 0 || ok || e != api.ErrArg {
		t.Error(a, b, q, x, y, ok, e)
	}
	if e := judge.CheckQuestion(a, b, -1, -1, q); e != api.ErrArg {
		t.Error(a, b, q, e)
	}
}

func TestAfter(t *testing.T) { // P2.2
	for i, c := range []struct {
		a, b, x, y int
		yes        bool
		c, d       int
		e          api.Errno
	}{
		{4, 0, 2, 0, true, 2, 2, api.OK},
		{4, 0, 1, 0, true, 1, 3, api.OK},
		{4, 0, 1, 0, false, 3, 1, api.OK},
		{2, 3, 1, 2, true, 1, 3, api.OK},
		{2, 3, 1, 2, false, 1, 2, api.OK},
		{0, 0, 0, 0, true, 0, 0, api.OK},
		{16, 16, 0, 16, true, 0, 32, api.OK},
		{16, 16, 16, 0, false, 0, 32, api.OK},
		{2, 3, 3, 0, true, 0, 0, api.ErrRule},
		{2, 3, -1, 0, false, 0, 0, api.ErrRule},
		{2, 3, 0, 4, true, 0, 0, api.ErrRule},
		{2, 3, 0, -1, false, 0, 0, api.ErrRule},
		{2, 3, math.MaxInt, math.MinInt, true, 0, 0, api.ErrRule},
	} {
		if a, b, e := judge.After(c.a, c.b, c.x, c.y, c.yes); a != c.c || b != c.d || e != c.e {
			t.Error(i, a, b, e)
		}
	}
}

func TestAfterIsTheStateOfTheRecord(t *testing.T) { // P2.2
	next := numbers()
	for _, r := range someRecords() {
		if len(r.l) == api.MaxAsked {
			continue
		}
		named := subset(next, r.grades)
		x, y := 0, 0
		for _, g := range named {
			switch countOf(r, g) {
			case 0:
				x++
			case 1:
				y++
			}
		}
		a, b := stateOf(t, r)
		for _, answer := range []api.Answer{yes(named...), no(named...)} {
			c, d := stateOf(t, record{r.grades, append(r.l[:len(r.l):len(r.l)], answer)})
			if m, n, e := judge.After(a, b, x, y, answer.Yes); m != c || n != d || e != api.OK {
				t.Error(r, answer, m, n, e, c, d)
			}
		}
	}
}

func TestWeight(t *testing.T) { // P2.3, S2
	for _, c := range [][4]int{{4, 0, 5, 24}, {3, 2, 0, 5}, {16, 16, 12, 224}, {0, 0, 12, 0}, {0, 7, 12, 7}} {
		if n := weightOf(t, c[0], c[1], c[2]); n != c[3] {
			t.Error(c, n)
		}
	}
	eachState(func(a, b int) {
		for q := 1; q <= api.MaxAsked; q++ {
			for x := range a + 1 {
				for y := range b + 1 {
					checkWeights(t, a, b, x, y, q)
				}
			}
		}
	})
}

// checkWeights checks that the weights after both answers add up; a state after a question may be too large for Weight.
func checkWeights(t *testing.T, a, b, x, y, q int) {
	t.Helper()
	sum := 0
	for _, answer := range []bool{true, false} {
		c, d, e := judge.After(a, b, x, y, answer)
		if e != api.OK {
			t.Fatal(a, b, x, y, e)
		}
		if d > api.MaxGrades {
			return
		}
		sum += weightOf(t, c, d, q-1)
	}
	if n := weightOf(t, a, b, q); n != sum {
		t.Error(a, b, x, y, q, n, sum)
	}
}

func TestNeedEnoughAndBound(t *testing.T) { // P2.3, S2
	for _, c := range []struct{ a, b, need, bound int }{{2, 0, 3, 3}, {0, 2, 1, 1}, {1, 0, 0, 0}, {0, 1, 0, 0}, {0, 0, 0, 0}, {1, 1, 2, 2}, {3, 0, 5, 4}, {4, 0, 5, 5}, {0, 16, 4, 4}, {16, 0, 7, 7}} {
		n, e := judge.Need(c.a, c.b)
		m, f := judge.Bound(c.a, c.b)
		if n != c.need || e != api.OK || m != c.bound || f != api.OK {
			t.Error(c, n, e, m, f)
		}
	}
	w := allWins()
	eachState(func(a, b int) {
		need := w.need(a, b)
		if n := needOf(t, a, b); n != need || n > api.MaxAsked {
			t.Error(a, b, n, need)
		}
		for q := range api.MaxAsked + 1 {
			if ok, e := judge.Enough(a, b, q); ok != w[q][a][b] || ok != (q >= need) || e != api.OK {
				t.Error(a, b, q, ok, e, need)
			}
		}
	})
}

func TestBound(t *testing.T) { // P2.3
	eachState(func(a, b int) {
		n, e := judge.Bound(a, b)
		if e != api.OK || weightOf(t, a, b, n) > 1<<n || n > 0 && weightOf(t, a, b, n-1) <= 1<<(n-1) {
			t.Error(a, b, n, e)
		}
		need := needOf(t, a, b)
		if a+b > 1 && need < n {
			t.Error(a, b, n, need)
		}
		if a < api.MaxGrades && needOf(t, a+1, b) < need || b < api.MaxGrades && needOf(t, a, b+1) < need {
			t.Error("the need falls", a, b)
		}
	})
}

func TestCheckQuestion(t *testing.T) { // P2.4
	for i, c := range []struct {
		a, b, x, y, q int
		want          api.Errno
	}{
		{2, 0, 1, 0, 3, api.OK},
		{2, 0, 1, 0, 2, api.ErrProof},
		{2, 0, 2, 0, 3, api.ErrProof},
		{2, 0, 0, 0, 3, api.ErrProof},
		{2, 0, 0, 0, 4, api.OK},
		{1, 0, 0, 0, 1, api.OK},
		{0, 0, 0, 0, 12, api.OK},
		{16, 16, 8, 8, 12, api.OK},
		{16, 16, 0, 16, 12, api.OK}, // (0, 32) after yes needs 5
		{16, 16, 0, 16, 8, api.OK},
		{16, 16, 0, 16, 7, api.ErrProof},
		{0, 16, 0, 8, 4, api.OK},
		{0, 16, 0, 7, 4, api.ErrProof},
		{2, 0, 3, 0, 3, api.ErrRule},
		{2, 0, 3, 0, 1, api.ErrRule},
		{2, 0, -1, 0, 3, api.ErrRule},
		{2, 0, 0, 1, 3, api.ErrRule},
		{2, 0, 0, -1, 3, api.ErrRule},
		{2, 0, math.MinInt, math.MaxInt, 3, api.ErrRule},
		{2, 0, 1, 0, 0, api.ErrArg},
		{2, 0, 9, 0, 0, api.ErrArg},
		{1, 0, 0, 0, 0, api.ErrArg},
		{17, 0, 9, 0, 3, api.ErrArg},
	} {
		if e := judge.CheckQuestion(c.a, c.b, c.x, c.y, c.q); e != c.want {
			t.Error(i, e, c.want)
		}
	}
	w := allWins()
	eachState(func(a, b int) {
		for q := 1; q <= api.MaxAsked; q++ {
			for x := range a + 1 {
				for y := range b + 1 {
					want := api.OK
					if !w.isGood(a, b, x, y, q) {
						want = api.ErrProof
					}
					if e := judge.CheckQuestion(a, b, x, y, q); e != want {
						t.Error(a, b, x, y, q, e, want)
					}
				}
			}
		}
	})
}

func TestQuestion(t *testing.T) { // P2.4
	w := allWins()
	eachState(func(a, b int) {
		for q := range api.MaxAsked + 1 {
			x, y, ok, e := judge.Question(a, b, q)
			if ok != (a+b > 1 && w[q][a][b]) || e != api.OK {
				t.Error(a, b, q, x, y, ok, e)
			}
			if !ok && (x != 0 || y != 0) {
				t.Error(a, b, q, x, y)
			}
			if ok && judge.CheckQuestion(a, b, x, y, q) != api.OK {
				t.Error(a, b, q, x, y)
			}
			if m, n, _, _ := judge.Question(a, b, q); m != x || n != y { // R11
				t.Error(a, b, q, x, y, m, n)
			}
		}
	})
}
