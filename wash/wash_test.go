package wash_test

import (
	"math"
	"slices"
	"testing"

	"verditer/api"
	"verditer/wash"
)

func TestValidate(t *testing.T) { // P1.1
	for _, l := range someLots() {
		if e := wash.Validate(l); e != api.OK {
			t.Error(l, e)
		}
	}
	for want, lots := range badLots() {
		for _, l := range lots {
			if e := wash.Validate(l); e != want {
				t.Error(l, e, want)
			}
		}
	}
	if e := wash.Validate([]api.Grain{}); e != api.OK {
		t.Error(e)
	}
	for _, g := range []api.Grain{{Size: math.MaxInt, Mass: 1}, {Size: math.MinInt, Mass: 1}, {Size: 1, Mass: math.MaxInt}, {Size: 1, Mass: math.MinInt}} {
		if e := wash.Validate([]api.Grain{g}); e != api.ErrArg {
			t.Error(g, e)
		}
	}
}

// calls has a call of each function with lots, in which all other arguments are wrong too; it tells whether the other results are zero.
func calls(l, m []api.Grain) map[string]func() (bool, api.Errno) {
	moves := make([]api.Move, api.MaxMoves+1)
	return map[string]func() (bool, api.Errno){
		"Mass":       func() (bool, api.Errno) { n, e := wash.Mass(l); return n == 0, e },
		"Below":      func() (bool, api.Errno) { n, e := wash.Below(l, 5); return n == 0, e },
		"Sieve":      func() (bool, api.Errno) { a, b, e := wash.Sieve(l, 5); return len(a)+len(b) == 0, e },
		"Settle":     func() (bool, api.Errno) { a, b, e := wash.Settle(l, -1, 0); return len(a)+len(b) == 0, e },
		"Wash":       func() (bool, api.Errno) { a, e := wash.Wash(l, -1, 0, 0); return len(a) == 0, e },
		"Pots":       func() (bool, api.Errno) { a, e := wash.Pots(l, []int{-1}, 0); return len(a) == 0, e },
		"Time":       func() (bool, api.Errno) { n, e := wash.Time(l, 0, -1, 0); return n == 0, e },
		"Mean":       func() (bool, api.Errno) { r, e := wash.Mean(l); return r == api.Rat{}, e },
		"Middle":     func() (bool, api.Errno) { n, e := wash.Middle(l); return n == 0, e },
		"IsFiner":    func() (bool, api.Errno) { is, e := wash.IsFiner(l, m); return !is, e },
		"Grind":      func() (bool, api.Errno) { a, e := wash.Grind(l, moves); return len(a) == 0, e },
		"CheckFiner": func() (bool, api.Errno) { return true, wash.CheckFiner(l, m, moves) },
		"Moves":      func() (bool, api.Errno) { a, ok, e := wash.Moves(l, m); return len(a) == 0 && !ok, e },
		"Join":       func() (bool, api.Errno) { a, e := wash.Join(l, m); return len(a) == 0, e },
		"Work":       func() (bool, api.Errno) { n, ok, e := wash.Work(l, m); return n == 0 && !ok, e },
	}
}

func TestErrorsOfValidateComeFirst(t *testing.T) { // P1.1, R2, R3
	for want, lots := range badLots() {
		for _, bad := range lots {
			for name, call := range calls(bad, lot(1, 0)) {
				if zero, e := call(); !zero || e != want {
					t.Error(name, bad, zero, e, want)
				}
			}
			for _, name := range []string{"IsFiner", "CheckFiner", "Moves", "Join", "Work"} {
				if zero, e := calls(lot(3, 7), bad)[name](); !zero || e != want {
					t.Error(name, "second", bad, zero, e, want)
				}
			}
		}
	}
	large := make([]api.Grain, api.MaxGrains+1)
	for _, name := range []string{"IsFiner", "CheckFiner", "Moves", "Join", "Work"} {
		if _, e := calls(lot(0, 1), large)[name](); e != api.ErrArg {
			t.Error(name, "the first lot decides", e)
		}
	}
}

func TestMassesThatDiffer(t *testing.T) { // P1.1
	for _, c := range [][2][]api.Grain{{lot(1, 1), lot(1, 2)}, {nil, lot(1, 1)}, {lot(1, 1), nil}} {
		for _, name := range []string{"IsFiner", "CheckFiner", "Moves", "Work"} {
			if zero, e := calls(c[0], c[1])[name](); !zero || e != api.ErrFit {
				t.Error(name, c, zero, e)
			}
		}
		if _, e := wash.Join(c[0], c[1]); e != api.OK {
			t.Error(c, e)
		}
	}
}

func TestMassAndBelow(t *testing.T) { // P1.2
	for _, l := range someLots() {
		sum := 0
		for _, g := range l {
			sum += g.Mass
		}
		if n := massOf(t, l); n != sum {
			t.Error(l, n, sum)
		}
		for size := -1; size <= api.MaxSize+1; size++ {
			sum := 0
			for _, g := range l {
				if g.Size <= size {
					sum += g.Mass
				}
			}
			if n := below(t, l, size); n != sum {
				t.Error(l, size, n, sum)
			}
		}
		if below(t, l, math.MinInt) != 0 || below(t, l, math.MaxInt) != massOf(t, l) {
			t.Error(l)
		}
	}
}

func TestSieve(t *testing.T) { // P1.2
	sizes := []int{math.MinInt, -1, 0, 1, 4, 5, 6, 19, 20, 21, math.MaxInt}
	for _, l := range someLots() {
		for _, size := range sizes {
			a, b, e := wash.Sieve(l, size)
			if e != api.OK || !slices.Equal(slices.Concat(a, b), l) {
				t.Error(l, size, a, b, e)
			}
			for _, g := range a {
				if g.Size > size {
					t.Error(l, size, a)
				}
			}
			for _, g := range b {
				if g.Size <= size {
					t.Error(l, size, b)
				}
			}
		}
	}
}

func TestMean(t *testing.T) { // P1.4
	for _, c := range []struct {
		l    []api.Grain
		want api.Rat
	}{{lot(1, 2, 5, 4), rat(11, 3)}, {lot(20, 100), whole(20)}, {lot(1, 1, 2, 1), rat(3, 2)}} {
		if r, e := wash.Mean(c.l); r != c.want || e != api.OK {
			t.Error(c.l, r, e)
		}
	}
	for _, l := range [][]api.Grain{nil, {}} {
		if r, e := wash.Mean(l); r != (api.Rat{}) || e != api.ErrNone {
			t.Error(r, e)
		}
	}
}

func TestMiddle(t *testing.T) { // P1.4
	for _, c := range []struct {
		l    []api.Grain
		want int
	}{{lot(1, 2, 5, 4), 5}, {lot(1, 2, 5, 2), 1}, {lot(1, 1, 5, 2), 5}, {lot(2, 1, 3, 1, 9, 1), 3}, {lot(2, 1, 3, 1, 9, 2), 3}, {lot(7, 1), 7}} {
		if n, e := wash.Middle(c.l); n != c.want || e != api.OK {
			t.Error(c.l, n, e)
		}
	}
	for _, l := range [][]api.Grain{nil, {}} {
		if n, e := wash.Middle(l); n != 0 || e != api.ErrNone {
			t.Error(n, e)
		}
	}
	for _, l := range someLots()[1:] {
		n, e := wash.Middle(l)
		if e != api.OK || 2*below(t, l, n) < massOf(t, l) || 2*below(t, l, n-1) >= massOf(t, l) {
			t.Error(l, n, e)
		}
	}
}

func TestJoin(t *testing.T) { // P1.6
	for i, c := range []struct {
		l, m, want []api.Grain
		e          api.Errno
	}{
		{nil, nil, nil, api.OK},
		{lot(1, 2), nil, lot(1, 2), api.OK},
		{nil, lot(1, 2), lot(1, 2), api.OK},
		{lot(1, 2, 5, 4), lot(2, 1, 5, 3), lot(1, 2, 2, 1, 5, 7), api.OK},
		{lot(5, 60), lot(5, 40), lot(5, 100), api.OK},
		{lot(5, 60), lot(5, 41), nil, api.ErrArg},
		{lot(1, 1, 3, 1, 5, 1), lot(2, 1, 4, 1, 6, 1), lot(1, 1, 2, 1, 3, 1, 4, 1, 5, 1, 6, 1), api.OK},
		{lot(1, 1, 3, 1, 5, 1), lot(2, 1, 4, 1, 6, 1, 7, 1), nil, api.ErrLarge},
		{lot(1, 100, 3, 1, 5, 1), lot(1, 1, 2, 1, 4, 1, 6, 1, 7, 1), nil, api.ErrLarge},
	} {
		if l, e := wash.Join(c.l, c.m); !slices.Equal(l, c.want) || e != c.e {
			t.Error(i, l, e)
		}
		if l, e := wash.Join(c.m, c.l); !slices.Equal(l, c.want) || e != c.e {
			t.Error(i, "exchanged", l, e)
		}
	}
}

func TestSieveParts(t *testing.T) { // P1.2, P1.6: what is parted comes together again
	for _, l := range someLots() {
		for size := 0; size <= api.MaxSize; size++ {
			a, b, _ := wash.Sieve(l, size)
			if j, e := wash.Join(a, b); !slices.Equal(j, l) || e != api.OK {
				t.Error(l, size, j, e)
			}
		}
	}
}

func TestResultsAreNewMemory(t *testing.T) { // R5
	l, m := lot(1, 3, 4, 1), lot(1, 1, 4, 3)
	spoil := func(x []api.Grain) {
		x = x[:cap(x)]
		for i := range x {
			x[i] = api.Grain{}
		}
	}
	a, b, _ := wash.Sieve(l, 1)
	spoil(a)
	if !slices.Equal(b, lot(4, 1)) {
		t.Error(b)
	}
	spoil(b)
	for _, c := range [][2][]api.Grain{{l, nil}, {nil, l}, {l, l}} {
		j, _ := wash.Join(c[0], c[1])
		spoil(j)
	}
	g, _ := wash.Grind(l, nil)
	spoil(g)
	wash.Moves(l, m)
	wash.Wash(l, 1, 9, 2)
	if !slices.Equal(l, lot(1, 3, 4, 1)) || !slices.Equal(m, lot(1, 1, 4, 3)) {
		t.Error(l, m)
	}
	p, _ := wash.Pots(l, []int{1, 1}, 9)
	for i := range p[0][:cap(p[0])] {
		p[0][:cap(p[0])][i] = api.Rat{}
	}
	q, _ := wash.Pots(l, []int{1, 1}, 9)
	if !slices.Equal(p[1], q[1]) || !slices.Equal(p[2], q[2]) {
		t.Error(p, q)
	}
}
