package strike_test

import (
	"slices"
	"testing"

	"verditer/api"
	"verditer/strike"
)

func TestNamedStrikes(t *testing.T) { // P4.2
	for i, c := range []struct {
		s      api.Strike
		space  int
		simple []int
		can    bool
	}{
		{water(), 1, []int{2, 1, 2}, true},
		{apart(), 0, nil, false},
		{gas(), 1, []int{1, 5, 3, 4}, true},
		{crossed(), 1, nil, false},
		{idle(), 1, nil, false},
		{wide(), 3, nil, true},
		{doubled(), 1, []int{2, 1}, true},
		{heavy(), 1, []int{1800, 2736, 3807, 4032, 952}, true},
		{full(), 3, nil, true},
		{api.Strike{In: side{{6}}, Out: side{{4}}}, 1, []int{2, 3}, true},
		{api.Strike{In: side{{9}}, Out: side{{9}}}, 1, []int{1, 1}, true},
		{api.Strike{In: side{{1, 0, 0, 1}}, Out: side{{0, 1, 1, 0}}}, 0, nil, false},
		{api.Strike{In: side{{9, 8}, {1, 0}, {0, 7}}, Out: side{{5, 3}, {2, 9}}}, 3, nil, true},
	} {
		if n := spaceOf(t, c.s); n != c.space {
			t.Error(i, n)
		}
		if l, ok, e := strike.Simple(c.s); !slices.Equal(l, c.simple) || ok != (c.simple != nil) || e != api.OK {
			t.Error(i, l, ok, e)
		}
		if ok := canBalance(t, c.s); ok != c.can {
			t.Error(i, ok)
		}
	}
}

func TestSpace(t *testing.T) { // P4.2
	for _, s := range someStrikes() {
		n := spaceOf(t, s)
		compounds := len(compoundsOf(s))
		if n != compounds-rankOf(rows(s)) || n < compounds-len(s.In[0]) {
			t.Error(s, n)
		}
	}
}

func TestThereIsABalanceOrWhatForbidsIt(t *testing.T) { // P4.2, P4.3, S4: either is a proof that the other one is not
	balances := 0
	for _, s := range someStrikes() {
		times, can, e := strike.Balance(s)
		weights, cannot, f := strike.Forbid(s)
		if can == cannot || can != canBalance(t, s) || e != api.OK || f != api.OK {
			t.Fatal(s, can, cannot, e, f)
		}
		if can {
			balances++
			if !isBalance(s, times) || len(weights) != 0 {
				t.Error(s, times, weights)
			}
		} else if len(times) != 0 || len(weights) != len(s.In[0]) || !doForbid(s, weights) || strike.CheckForbid(s, weights) != api.OK {
			t.Error(s, times, weights)
		}
	}
	if balances < 300 {
		t.Error("too few strikes have a balance:", balances)
	}
}

func TestBalanceOfLargeAtoms(t *testing.T) { // P4.2, P4.3: numbers that are nearly as large as they can be
	next := numbers()
	atoms := []int{0, 0, 0, 9, 9, 9, 8, 1}
	for range 3000 {
		var l side
		for range 4 + next(3) {
			c := []int{9, 0, 0, 0}
			for i := range c {
				c[i] = max(c[i]*next(2), atoms[next(len(atoms))])
			}
			c[next(4)] = 9
			l = append(l, c)
		}
		s := api.Strike{In: l[:len(l)/2], Out: l[len(l)/2:]}
		times, can, _ := strike.Balance(s)
		weights, cannot, _ := strike.Forbid(s)
		if can == cannot || can && !isBalance(s, times) || cannot && strike.CheckForbid(s, weights) != api.OK {
			t.Error(s, times, can, weights, cannot)
		}
	}
}

func TestSimple(t *testing.T) { // P4.2
	for _, s := range someStrikes() {
		l, ok, e := strike.Simple(s)
		if ok != (spaceOf(t, s) == 1 && canBalance(t, s)) || e != api.OK {
			t.Error(s, l, ok, e)
		}
		if !ok {
			if len(l) != 0 {
				t.Error(s, l)
			}
			continue
		}
		if !isBalance(s, l) || commonOf(l) != 1 {
			t.Error(s, l)
		}
	}
}

// commonOf returns the greatest number that divides all of l.
func commonOf(l []int) int {
	for n := slices.Min(l); ; n-- {
		if !slices.ContainsFunc(l, func(x int) bool { return x%n != 0 }) {
			return n
		}
	}
}

func TestCheckForbid(t *testing.T) { // P4.3
	for i, c := range []struct {
		s       api.Strike
		weights []int
		want    api.Errno
	}{
		{apart(), []int{1, -1}, api.OK},
		{apart(), []int{1, 0}, api.OK},
		{apart(), []int{0, -1}, api.OK},
		{apart(), []int{api.MaxCoef, -api.MaxCoef}, api.OK},
		{apart(), []int{0, 0}, api.ErrProof},
		{apart(), []int{1, 1}, api.ErrProof},
		{apart(), []int{-1, -1}, api.ErrProof},
		{apart(), []int{-1, 1}, api.ErrProof},
		{idle(), []int{0, 1}, api.OK},
		{idle(), []int{0, -1}, api.ErrProof},
		{idle(), []int{1, 1}, api.ErrProof},
		{crossed(), []int{1, -1}, api.OK},
		{crossed(), []int{1, -2}, api.ErrProof},
		{water(), []int{0, 0}, api.ErrProof},
		{water(), []int{1, -2}, api.ErrProof},
		{doubled(), []int{2, -1}, api.ErrProof}, // all compounds have the weight 0
	} {
		if e := strike.CheckForbid(c.s, c.weights); e != c.want {
			t.Error(i, e, c.want)
		}
	}
	next := numbers()
	for _, s := range someStrikes() {
		weights := someWeights(s, next)
		want := api.ErrProof
		if doForbid(s, weights) {
			want = api.OK
		}
		if e := strike.CheckForbid(s, weights); e != want {
			t.Error(s, weights, e, want)
		}
	}
}

func TestEqualCalls(t *testing.T) { // R11
	for _, s := range largeStrikes() {
		times, _, _ := strike.Balance(s)
		again, _, _ := strike.Balance(copyOf(s))
		weights, _, _ := strike.Forbid(s)
		same, _, _ := strike.Forbid(copyOf(s))
		if !slices.Equal(times, again) || !slices.Equal(weights, same) {
			t.Error(s, times, again, weights, same)
		}
		spoil(times)
		spoil(weights)
		if third, _, _ := strike.Balance(s); !slices.Equal(third, again) {
			t.Error(s, third, again)
		}
	}
}
