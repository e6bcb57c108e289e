package strike_test

import (
	"math"
	"slices"
	"testing"

	"verditer/api"
	"verditer/strike"
)

func TestValidate(t *testing.T) { // P4.1
	for _, s := range someStrikes() {
		if e := strike.Validate(s); e != api.OK {
			t.Error(s, e)
		}
	}
	for i, s := range badStrikes() {
		if e := strike.Validate(s); e != api.ErrArg {
			t.Error(i, s, e)
		}
	}
}

// call is a call of a function: whether all results but the error are zero, and the error.
type call func(s api.Strike) (bool, api.Errno)

// calls has a call of each function; the other arguments are right for the strike one.
func calls() map[string]call {
	one := api.Strike{In: side{{1, 1}}, Out: side{{1, 1}}}
	times, stock, weights := []int{1, 1}, []int{1}, []int{1, 1}
	return map[string]call{
		"Balances":    func(s api.Strike) (bool, api.Errno) { ok, e := strike.Balances(s, times); return !ok, e },
		"Space":       func(s api.Strike) (bool, api.Errno) { n, e := strike.Space(s); return n == 0, e },
		"Simple":      func(s api.Strike) (bool, api.Errno) { l, ok, e := strike.Simple(s); return len(l) == 0 && !ok, e },
		"CanBalance":  func(s api.Strike) (bool, api.Errno) { ok, e := strike.CanBalance(s); return !ok, e },
		"Balance":     func(s api.Strike) (bool, api.Errno) { l, ok, e := strike.Balance(s); return len(l) == 0 && !ok, e },
		"CheckForbid": func(s api.Strike) (bool, api.Errno) { return true, strike.CheckForbid(s, weights) },
		"Forbid":      func(s api.Strike) (bool, api.Errno) { l, ok, e := strike.Forbid(s); return len(l) == 0 && !ok, e },
		"Weigh":       func(s api.Strike) (bool, api.Errno) { l, e := strike.Weigh(s, weights); return len(l) == 0, e },
		"Elements": func(s api.Strike) (bool, api.Errno) {
			l, m, e := strike.Elements(s, times)
			return len(l)+len(m) == 0, e
		},
		"Limit": func(s api.Strike) (bool, api.Errno) {
			n, l, e := strike.Limit(s, times, stock)
			return n == 0 && len(l) == 0, e
		},
		"Run": func(s api.Strike) (bool, api.Errno) {
			l, m, e := strike.Run(s, times, stock, 1)
			return len(l)+len(m) == 0, e
		},
		"Turn":     func(s api.Strike) (bool, api.Errno) { r, e := strike.Turn(s); return isNothing(r), e },
		"Join":     func(s api.Strike) (bool, api.Errno) { r, e := strike.Join(s, one); return isNothing(r), e },
		"Join to":  func(s api.Strike) (bool, api.Errno) { r, e := strike.Join(one, s); return isNothing(r), e },
		"Without":  func(s api.Strike) (bool, api.Errno) { r, e := strike.Without(s, 0); return isNothing(r), e },
		"Needless": func(s api.Strike) (bool, api.Errno) { l, e := strike.Needless(s); return len(l) == 0, e },
	}
}

func TestErrorsOfStrikesThatAreNone(t *testing.T) { // P4.1, R2, R3
	for name, call := range calls() {
		for i, s := range badStrikes() {
			if zero, e := call(s); !zero || e != api.ErrArg {
				t.Error(name, i, s, zero, e)
			}
		}
		if zero, e := call(api.Strike{In: side{{1, 1}}, Out: side{{1, 1}}}); e != api.OK && e != api.ErrProof {
			t.Error(name, zero, e)
		}
	}
}

func TestStrikesThatAreNoneComeFirst(t *testing.T) { // P4.1, R2: before errors of the other arguments
	bad := api.Strike{In: side{{1, 0}, {0, 0}}, Out: side{{1, 0}}}
	if r, e := strike.Without(bad, 2); !isNothing(r) || e != api.ErrArg {
		t.Error(r, e)
	}
	for _, c := range [][2]api.Strike{{bad, gas()}, {gas(), bad}, {bad, full()}, {full(), bad}} {
		if r, e := strike.Join(c[0], c[1]); !isNothing(r) || e != api.ErrArg {
			t.Error(c, r, e)
		}
	}
	if n, l, e := strike.Limit(bad, []int{1, 1, 3}, []int{1, 1}); n != 0 || len(l) != 0 || e != api.ErrArg {
		t.Error(n, l, e)
	}
}

func TestTimesThatAreNone(t *testing.T) { // P4.1: ErrArg
	for _, times := range [][]int{nil, {}, {2, 1}, {2, 1, 2, 1}, {2, 1, api.MaxCoef + 1}, {-api.MaxCoef - 1, 1, 2}, {2, math.MaxInt, 2}, {math.MinInt, 1, 2}, make([]int, 100)} {
		if ok, e := strike.Balances(water(), times); ok || e != api.ErrArg {
			t.Error(times, ok, e)
		}
		if l, m, e := strike.Elements(water(), times); len(l)+len(m) != 0 || e != api.ErrArg {
			t.Error(times, l, m, e)
		}
		checkRunsRefused(t, times, []int{5, 9}, 1, api.ErrArg)
	}
}

func TestStockThatIsNone(t *testing.T) { // P4.1: ErrArg, before ErrRule
	for _, stock := range [][]int{nil, {5}, {5, 9, 1}, {-1, 9}, {5, -1}, {5, api.MaxStock + 1}, {math.MaxInt, 9}, {5, math.MinInt}} {
		checkRunsRefused(t, []int{2, 1, 2}, stock, 1, api.ErrArg)
		checkRunsRefused(t, []int{1, 1, 1}, stock, 1, api.ErrArg)
	}
}

func TestWeightsThatAreNone(t *testing.T) { // P4.1: ErrArg
	for _, weights := range [][]int{nil, {}, {1}, {1, -1, 0}, {api.MaxCoef + 1, -1}, {1, -api.MaxCoef - 1}, {math.MaxInt, 0}, {0, math.MinInt}, make([]int, 100)} {
		for _, s := range []api.Strike{water(), apart()} {
			if l, e := strike.Weigh(s, weights); len(l) != 0 || e != api.ErrArg {
				t.Error(s, weights, l, e)
			}
			if e := strike.CheckForbid(s, weights); e != api.ErrArg {
				t.Error(s, weights, e)
			}
		}
	}
}

func TestBalances(t *testing.T) { // P4.2
	for i, c := range []struct {
		s     api.Strike
		times []int
		want  bool
	}{
		{water(), []int{2, 1, 2}, true},
		{water(), []int{4, 2, 4}, true},
		{water(), []int{0, 0, 0}, true},
		{water(), []int{-2, -1, -2}, true},
		{water(), []int{api.MaxCoef, api.MaxCoef / 2, api.MaxCoef}, true},
		{water(), []int{-api.MaxCoef, -api.MaxCoef / 2, -api.MaxCoef}, true},
		{water(), []int{2, 1, -2}, false},
		{water(), []int{2, 2, 2}, false},
		{water(), []int{1, 1, 2}, false},
		{water(), []int{1, 2, 2}, false},
		{crossed(), []int{1, -1, -1}, true},
		{crossed(), []int{1, 1, 1}, false},
		{gas(), []int{1, 5, 3, 4}, true},
		{gas(), []int{1, 5, 4, 3}, false},
		{wide(), []int{-2, 5, 1, 1}, true},
		{apart(), []int{api.MaxCoef, -api.MaxCoef}, false},
	} {
		if ok, e := strike.Balances(c.s, c.times); ok != c.want || e != api.OK {
			t.Error(i, ok, e)
		}
	}
}

// someTimes returns times of all signs, of which a part balances.
func someTimes(s api.Strike, next func(n int) int) []int {
	times := make([]int, len(compoundsOf(s)))
	if b, ok, _ := strike.Balance(s); ok && next(2) == 0 {
		sign := next(3) - 1
		for i := range times {
			times[i] = b[i] * sign
		}
		return times
	}
	most := []int{2, 9, api.MaxCoef}[next(3)]
	for i := range times {
		times[i] = next(2*most+1) - most
	}
	return times
}

// someWeights returns weights of all signs.
func someWeights(s api.Strike, next func(n int) int) []int {
	weights := make([]int, len(s.In[0]))
	most := []int{1, 3, api.MaxCoef}[next(3)]
	for i := range weights {
		weights[i] = next(2*most+1) - most
	}
	return weights
}

func TestBalancesElementsAndWeigh(t *testing.T) { // P4.2, P4.3: by the definition
	next := numbers()
	for _, s := range someStrikes() {
		times, weights := someTimes(s, next), someWeights(s, next)
		ok, e := strike.Balances(s, times)
		if ok != doBalance(s, times) || e != api.OK {
			t.Error(s, times, ok, e)
		}
		in, out, e := strike.Elements(s, times)
		if len(in) != len(s.In[0]) || len(out) != len(in) || e != api.OK {
			t.Fatal(s, times, in, out, e)
		}
		for element := range in {
			if in[element] != sumOf(s.In, times[:len(s.In)], element) || out[element] != sumOf(s.Out, times[len(s.In):], element) {
				t.Error(s, times, in, out)
			}
		}
		l, e := strike.Weigh(s, weights)
		if len(l) != len(times) || e != api.OK {
			t.Fatal(s, weights, l, e)
		}
		sum := 0
		for i, c := range compoundsOf(s) {
			if l[i] != weightOf(c, weights) {
				t.Error(s, weights, l)
			}
			if i < len(s.In) {
				sum += times[i] * l[i]
			} else {
				sum -= times[i] * l[i]
			}
		}
		if ok && sum != 0 { // by any weights, what goes in weighs what comes out
			t.Error(s, times, weights, sum)
		}
	}
}

func TestElementsAndWeigh(t *testing.T) { // P4.3
	in, out, e := strike.Elements(gas(), []int{1, -1, 2, 0})
	if !slices.Equal(in, []int{3, 8, -2}) || !slices.Equal(out, []int{2, 0, 4}) || e != api.OK {
		t.Error(in, out, e)
	}
	in, out, e = strike.Elements(full(), slices.Repeat([]int{api.MaxCoef}, 6))
	if !slices.Equal(in, []int{9000000, 9000000, 9000000, 9000000}) || !slices.Equal(out, []int{10000000, 11000000, 21000000, 21000000}) || e != api.OK {
		t.Error(in, out, e)
	}
	l, e := strike.Weigh(water(), []int{1, 16})
	if !slices.Equal(l, []int{2, 32, 18}) || e != api.OK {
		t.Error(l, e)
	}
	l, e = strike.Weigh(full(), []int{api.MaxCoef, -api.MaxCoef, api.MaxCoef, api.MaxCoef})
	if !slices.Equal(l, []int{9000000, -9000000, 18000000, 18000000, 18000000, 5000000}) || e != api.OK {
		t.Error(l, e)
	}
}

func TestNoArgumentIsChanged(t *testing.T) { // R5, R11
	for _, s := range named() {
		before := copyOf(s)
		for name, call := range calls() {
			call(s)
			if !isSame(s, before) {
				t.Fatal(name, s, before)
			}
		}
	}
	times, stock := []int{2, 1, 2}, []int{5, 9}
	weights := []int{1, -1}
	left, made, _ := strike.Run(water(), times, stock, 0)
	in, out, _ := strike.Elements(water(), times)
	l, _ := strike.Weigh(water(), weights)
	for _, result := range [][]int{left, made, in, out, l} {
		spoil(result)
	}
	if !slices.Equal(times, []int{2, 1, 2}) || !slices.Equal(stock, []int{5, 9}) || !slices.Equal(weights, []int{1, -1}) {
		t.Error(times, stock, weights)
	}
}

// spoil overwrites all memory of a slice.
func spoil(l []int) {
	l = l[:cap(l)]
	for i := range l {
		l[i] = -7
	}
}
