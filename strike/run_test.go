package strike_test

import (
	"math"
	"slices"
	"testing"

	"verditer/api"
	"verditer/strike"
)

// checkRunsRefused checks that Limit and Run of water return an error.
func checkRunsRefused(t *testing.T, times, stock []int, runs int, want api.Errno) {
	t.Helper()
	if n, l, e := strike.Limit(water(), times, stock); n != 0 || len(l) != 0 || e != want {
		t.Error(times, stock, n, l, e, want)
	}
	if l, m, e := strike.Run(water(), times, stock, runs); len(l)+len(m) != 0 || e != want {
		t.Error(times, stock, runs, l, m, e, want)
	}
}

func TestTimesThatAreNoBalance(t *testing.T) { // P4.4: ErrRule, before the errors of runs
	for _, times := range [][]int{{1, 1, 1}, {2, 1, 1}, {0, 0, 0}, {-2, -1, -2}, {2, 1, -2}, {api.MaxCoef, api.MaxCoef, api.MaxCoef}} {
		for _, runs := range []int{0, 1, 1000, -1, 1001} {
			checkRunsRefused(t, times, []int{5, 9}, runs, api.ErrRule)
		}
	}
	for _, c := range []struct {
		s     api.Strike
		times []int
	}{{idle(), []int{1, 0, 1}}, {crossed(), []int{1, -1, -1}}, {wide(), []int{-2, 5, 1, 1}}, {wide(), []int{0, 3, 1, 1}}, {wide(), []int{1, 2, 3, 0}}} {
		if n, l, e := strike.Limit(c.s, c.times, []int{9, 9}); n != 0 || len(l) != 0 || e != api.ErrRule {
			t.Error(c, n, l, e)
		}
		if l, m, e := strike.Run(c.s, c.times, []int{9, 9}, 0); len(l)+len(m) != 0 || e != api.ErrRule {
			t.Error(c, l, m, e)
		}
	}
}

func TestLimit(t *testing.T) { // P4.4
	for i, c := range []struct {
		s            api.Strike
		times, stock []int
		runs         int
		short        []int
	}{
		{water(), []int{2, 1, 2}, []int{5, 9}, 2, []int{0}},
		{water(), []int{2, 1, 2}, []int{9, 3}, 3, []int{1}},
		{water(), []int{2, 1, 2}, []int{6, 3}, 3, []int{0, 1}},
		{water(), []int{2, 1, 2}, []int{7, 3}, 3, []int{0, 1}},
		{water(), []int{2, 1, 2}, []int{0, 0}, 0, []int{0, 1}},
		{water(), []int{2, 1, 2}, []int{1, 1000}, 0, []int{0}},
		{water(), []int{4, 2, 4}, []int{1000, 1000}, 250, []int{0}},
		{doubled(), []int{2, 1}, []int{1000}, 500, []int{0}},
		{api.Strike{In: side{{1}}, Out: side{{1}}}, []int{1, 1}, []int{1000}, 1000, []int{0}},
		{api.Strike{In: side{{1}}, Out: side{{1}}}, []int{api.MaxCoef, api.MaxCoef}, []int{1000}, 0, []int{0}},
	} {
		if n, l, e := strike.Limit(c.s, c.times, c.stock); n != c.runs || !slices.Equal(l, c.short) || e != api.OK {
			t.Error(i, n, l, e)
		}
	}
}

func TestRun(t *testing.T) { // P4.4
	for i, c := range []struct {
		s            api.Strike
		times, stock []int
		runs         int
		left, made   []int
		want         api.Errno
	}{
		{water(), []int{2, 1, 2}, []int{5, 9}, 0, []int{5, 9}, []int{0}, api.OK},
		{water(), []int{2, 1, 2}, []int{5, 9}, 1, []int{3, 8}, []int{2}, api.OK},
		{water(), []int{2, 1, 2}, []int{5, 9}, 2, []int{1, 7}, []int{4}, api.OK},
		{water(), []int{2, 1, 2}, []int{5, 9}, 3, nil, nil, api.ErrShort},
		{water(), []int{2, 1, 2}, []int{9, 1}, 2, nil, nil, api.ErrShort},
		{water(), []int{2, 1, 2}, []int{5, 9}, 1000, nil, nil, api.ErrShort},
		{water(), []int{2, 1, 2}, []int{5, 9}, 1001, nil, nil, api.ErrArg},
		{water(), []int{2, 1, 2}, []int{5, 9}, -1, nil, nil, api.ErrArg},
		{water(), []int{2, 1, 2}, []int{5, 9}, math.MaxInt, nil, nil, api.ErrArg},
		{water(), []int{2, 1, 2}, []int{5, 9}, math.MinInt, nil, nil, api.ErrArg},
		{gas(), []int{1, 5, 3, 4}, []int{10, 50}, 10, []int{0, 0}, []int{30, 40}, api.OK},
		{api.Strike{In: side{{9}}, Out: side{{1}}}, []int{1, 9}, []int{1000}, 1000, []int{0}, []int{9000}, api.OK},
		{api.Strike{In: side{{1}}, Out: side{{1}}}, []int{api.MaxCoef, api.MaxCoef}, []int{1000}, 1000, nil, nil, api.ErrShort},
	} {
		if l, m, e := strike.Run(c.s, c.times, c.stock, c.runs); !slices.Equal(l, c.left) || !slices.Equal(m, c.made) || e != c.want {
			t.Error(i, l, m, e)
		}
	}
}

// isEnough reports whether the stock is enough for so many runs, as the document words it.
func isEnough(times, stock []int, runs int) bool {
	for i, n := range stock {
		if runs*times[i] > n {
			return false
		}
	}
	return true
}

func TestLimitAndRun(t *testing.T) { // P4.4: by the definition
	next := numbers()
	for _, s := range someStrikes() {
		times, ok, _ := strike.Balance(s)
		if !ok {
			continue
		}
		stock := make([]int, len(s.In))
		for i := range stock {
			stock[i] = []int{next(10), next(api.MaxStock + 1), min(api.MaxStock, times[i]*next(20))}[next(3)]
		}
		checkRuns(t, s, times, stock)
	}
}

// checkRuns checks Limit, and Run up to it and behind it.
func checkRuns(t *testing.T, s api.Strike, times, stock []int) {
	t.Helper()
	most := 0
	for isEnough(times, stock, most+1) {
		most++
	}
	var short []int
	for i, n := range stock {
		if (most+1)*times[i] > n {
			short = append(short, i)
		}
	}
	if n, l, e := strike.Limit(s, times, stock); n != most || !slices.Equal(l, short) || e != api.OK {
		t.Error(s, times, stock, n, l, e)
	}
	for _, runs := range []int{0, most / 2, most} {
		left, made, e := strike.Run(s, times, stock, runs)
		if len(left) != len(s.In) || len(made) != len(s.Out) || e != api.OK {
			t.Fatal(s, times, stock, runs, left, made, e)
		}
		for i, n := range times {
			if i < len(left) && left[i] != stock[i]-runs*n || i >= len(left) && made[i-len(left)] != runs*n {
				t.Error(s, times, stock, runs, left, made)
			}
		}
	}
	if most < api.MaxStock {
		if l, m, e := strike.Run(s, times, stock, most+1); len(l)+len(m) != 0 || e != api.ErrShort {
			t.Error(s, times, stock, l, m, e)
		}
	}
}
