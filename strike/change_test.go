package strike_test

import (
	"math"
	"slices"
	"testing"

	"verditer/api"
	"verditer/strike"
)

func TestTurn(t *testing.T) { // P4.5
	want := api.Strike{In: side{{2, 1}}, Out: side{{2, 0}, {0, 2}}}
	if r, e := strike.Turn(water()); !isSame(r, want) || e != api.OK {
		t.Error(r, e)
	}
	for _, s := range someStrikes() {
		r, e := strike.Turn(s)
		if !isSame(r, api.Strike{In: s.Out, Out: s.In}) || e != api.OK {
			t.Error(s, r, e)
		}
		if canBalance(t, r) != canBalance(t, s) {
			t.Error(s, r)
		}
	}
}

func TestJoin(t *testing.T) { // P4.5
	want := api.Strike{In: side{{2, 0}, {0, 2}, {1, 0}}, Out: side{{2, 1}, {0, 1}}}
	if r, e := strike.Join(water(), apart()); !isSame(r, want) || e != api.OK {
		t.Error(r, e)
	}
	three := api.Strike{In: side{{1}}, Out: side{{1}, {1}, {1}}}
	for i, c := range []struct {
		s, t api.Strike
		want api.Errno
	}{
		{water(), water(), api.ErrLarge},
		{three, api.Strike{In: side{{1}}, Out: side{{1}}}, api.ErrLarge},
		{wide(), wide(), api.ErrLarge},
		{water(), gas(), api.ErrFit},
		{gas(), water(), api.ErrFit},
		{full(), wide(), api.ErrFit},
		{doubled(), apart(), api.OK},
	} {
		if r, e := strike.Join(c.s, c.t); e != c.want || isNothing(r) != (e != api.OK) {
			t.Error(i, r, e)
		}
	}
	strikes := largeStrikes()
	next := numbers()
	for range 5000 {
		s, u := strikes[next(len(strikes))], strikes[next(len(strikes))]
		checkJoin(t, s, u)
	}
}

// checkJoin checks Join by the definition.
func checkJoin(t *testing.T, s, u api.Strike) {
	t.Helper()
	r, e := strike.Join(s, u)
	joined := api.Strike{In: slices.Concat(s.In, u.In), Out: slices.Concat(s.Out, u.Out)}
	switch {
	case len(s.In[0]) != len(u.In[0]):
		if !isNothing(r) || e != api.ErrFit {
			t.Error(s, u, r, e)
		}
	case len(joined.In) > api.MaxSide || len(joined.Out) > api.MaxSide:
		if !isNothing(r) || e != api.ErrLarge {
			t.Error(s, u, r, e)
		}
	case !isSame(r, joined) || e != api.OK:
		t.Error(s, u, r, e)
	case canBalance(t, s) && canBalance(t, u) && !canBalance(t, r):
		t.Error(s, u, r)
	}
}

func TestWithout(t *testing.T) { // P4.5
	two := api.Strike{In: side{{2, 1}, {1, 2}}, Out: side{{3, 4}}}
	for i, c := range []struct {
		s       api.Strike
		element int
		result  api.Strike
		want    api.Errno
	}{
		{two, 0, api.Strike{In: side{{1}, {2}}, Out: side{{4}}}, api.OK},
		{two, 1, api.Strike{In: side{{2}, {1}}, Out: side{{3}}}, api.OK},
		{heavy(), 3, api.Strike{In: side{{8, 1, 9}, {0, 0, 9}, {8, 8, 0}}, Out: side{{9, 8, 8}, {9, 0, 9}}}, api.OK},
		{two, 2, api.Strike{}, api.ErrNone},
		{two, -1, api.Strike{}, api.ErrNone},
		{two, math.MaxInt, api.Strike{}, api.ErrNone},
		{two, math.MinInt, api.Strike{}, api.ErrNone},
		{wide(), 0, api.Strike{}, api.ErrArg},
		{wide(), 1, api.Strike{}, api.ErrNone},
		{water(), 0, api.Strike{}, api.ErrArg},
		{water(), 1, api.Strike{}, api.ErrArg},
		{apart(), 1, api.Strike{}, api.ErrArg},
		{gas(), 2, api.Strike{}, api.ErrArg},
	} {
		if r, e := strike.Without(c.s, c.element); !isSame(r, c.result) || e != c.want {
			t.Error(i, r, e)
		}
	}
}

func TestWithoutAndNeedless(t *testing.T) { // P4.5: by the definition, and what follows for Space
	for _, s := range someStrikes() {
		set, e := strike.Needless(s)
		if e != api.OK || !slices.IsSorted(set) {
			t.Fatal(s, set, e)
		}
		all := rows(s)
		for element := range all {
			others := slices.Delete(slices.Clone(all), element, element+1)
			needless := rankOf(others) == rankOf(all)
			if slices.Contains(set, element) != needless {
				t.Error(s, set, element)
			}
			checkWithout(t, s, element, needless)
		}
	}
}

// checkWithout checks Without by the definition.
func checkWithout(t *testing.T, s api.Strike, element int, needless bool) {
	t.Helper()
	want := copyOf(s)
	empty := false
	for _, l := range []side{want.In, want.Out} {
		for i, c := range l {
			l[i] = slices.Delete(c, element, element+1)
			empty = empty || len(l[i]) == 0 || slices.Max(l[i]) == 0
		}
	}
	r, e := strike.Without(s, element)
	if empty {
		if !isNothing(r) || e != api.ErrArg {
			t.Error(s, element, r, e)
		}
		return
	}
	if !isSame(r, want) || e != api.OK {
		t.Error(s, element, r, e)
	}
	n, m := spaceOf(t, s), spaceOf(t, r)
	if needless && m != n || !needless && m != n+1 {
		t.Error(s, element, needless, n, m)
	}
}

func TestNeedless(t *testing.T) { // P4.5
	for i, c := range []struct {
		s    api.Strike
		want []int
	}{
		{water(), nil},
		{wide(), nil},
		{doubled(), []int{0, 1}},
		{full(), []int{2, 3}},
		{api.Strike{In: side{{1, 0}}, Out: side{{1, 0}}}, []int{1}},
		{api.Strike{In: side{{0, 1, 0}}, Out: side{{0, 2, 0}}}, []int{0, 2}},
		{api.Strike{In: side{{1, 2, 3}, {1, 0, 1}}, Out: side{{1, 1, 2}}}, []int{0, 1, 2}},
		{api.Strike{In: side{{1, 0, 1, 5}}, Out: side{{0, 1, 1, 7}}}, []int{0, 1, 2, 3}},
	} {
		if l, e := strike.Needless(c.s); !slices.Equal(l, c.want) || e != api.OK {
			t.Error(i, l, e)
		}
	}
}

func TestNeedlessByTrying(t *testing.T) { // P4.5: times from -2 to 2 tell two elements with at most 2 atoms apart
	for _, s := range smallStrikes() {
		set, _ := strike.Needless(s)
		var want []int
		for element := range 2 {
			if !isNeeded(s, element) {
				want = append(want, element)
			}
		}
		if !slices.Equal(set, want) {
			t.Error(s, set, want)
		}
	}
}

// isNeeded reports whether some times balance the other one of two elements, but not this one.
func isNeeded(s api.Strike, element int) bool {
	n := len(compoundsOf(s))
	times := slices.Repeat([]int{-2}, n)
	for {
		if isEven(s, times, 1-element) && !isEven(s, times, element) {
			return true
		}
		i := 0
		for i < n && times[i] == 2 {
			times[i] = -2
			i++
		}
		if i == n {
			return false
		}
		times[i]++
	}
}

func TestChangedStrikesAreNewMemory(t *testing.T) { // R5
	s := api.Strike{In: side{{2, 1}}, Out: side{{3, 4}}}
	want := copyOf(s)
	results := func() map[string]api.Strike {
		turned, _ := strike.Turn(s)
		joined, _ := strike.Join(s, s)
		without, _ := strike.Without(s, 0)
		return map[string]api.Strike{"Turn": turned, "Join": joined, "Without": without}
	}
	first, second := results(), results()
	for name, r := range first {
		compounds, same := compoundsOf(r), compoundsOf(second[name])
		for i, c := range compounds {
			spoil(c)
			if !slices.EqualFunc(compounds[i+1:], same[i+1:], slices.Equal) || !isSame(s, want) {
				t.Error(name, "shares", i, r, s)
			}
		}
		clear(r.In[:cap(r.In)])
		clear(r.Out[:cap(r.Out)])
		if !isSame(s, want) {
			t.Error(name, "shares", s)
		}
	}
}
