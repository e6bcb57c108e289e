package feud_test

import (
	"math"
	"reflect"
	"slices"
	"testing"

	"verditer/api"
	"verditer/feud"
)

func TestValidate(t *testing.T) { // P3.1
	for _, s := range append(someShops(), api.Shop{Paints: 2, Feuds: []api.Feud{}}) {
		if e := feud.Validate(s); e != api.OK {
			t.Error(s, e)
		}
	}
	for _, c := range badShops() {
		if e := feud.Validate(c.s); e != c.want {
			t.Error(c.s, e, c.want)
		}
	}
}

// call is a call of a function: whether all results but the error are zero, and the error.
type call func(s api.Shop) (bool, api.Errno)

// badCalls has a call of each function; where there is another argument, it is wrong for any shop.
func badCalls() map[string]call {
	return map[string]call{
		"Feuds":        func(s api.Shop) (bool, api.Errno) { l, e := feud.Feuds(s, -1); return len(l) == 0, e },
		"IsCalm":       func(s api.Shop) (bool, api.Errno) { ok, e := feud.IsCalm(s, []int{-1}); return !ok, e },
		"IsBitter":     func(s api.Shop) (bool, api.Errno) { ok, e := feud.IsBitter(s, []int{-1}); return !ok, e },
		"Calm":         func(s api.Shop) (bool, api.Errno) { l, e := feud.Calm(s); return len(l) == 0, e },
		"Bitter":       func(s api.Shop) (bool, api.Errno) { l, e := feud.Bitter(s); return len(l) == 0, e },
		"Groups":       func(s api.Shop) (bool, api.Errno) { l, e := feud.Groups(s); return len(l) == 0, e },
		"CheckShelves": func(s api.Shop) (bool, api.Errno) { return true, feud.CheckShelves(s, 0, nil) },
		"Fewest":       func(s api.Shop) (bool, api.Errno) { n, e := feud.Fewest(s); return n == 0, e },
		"Shelve":       func(s api.Shop) (bool, api.Errno) { l, ok, e := feud.Shelve(s, 0); return len(l) == 0 && !ok, e },
		"Line":         func(s api.Shop) (bool, api.Errno) { l, e := feud.Line(s, nil); return len(l) == 0, e },
		"Count":        func(s api.Shop) (bool, api.Errno) { n, e := feud.Count(s, 0); return n == 0, e },
		"Terms":        func(s api.Shop) (bool, api.Errno) { l, e := feud.Terms(s); return len(l) == 0, e },
		"Orders":       func(s api.Shop) (bool, api.Errno) { n, e := feud.Orders(s); return n == 0, e },
		"CheckRound":   func(s api.Shop) (bool, api.Errno) { return true, feud.CheckRound(s, nil) },
		"Odd":          func(s api.Shop) (bool, api.Errno) { l, ok, e := feud.Odd(s); return len(l) == 0 && !ok, e },
		"Drop":         func(s api.Shop) (bool, api.Errno) { r, e := feud.Drop(s, -1); return isNothing(r), e },
		"Merge":        func(s api.Shop) (bool, api.Errno) { r, e := feud.Merge(s, -1); return isNothing(r), e },
		"Opposite":     func(s api.Shop) (bool, api.Errno) { r, e := feud.Opposite(s); return isNothing(r), e },
	}
}

func TestErrorsOfValidateComeFirst(t *testing.T) { // P3.1, R2, R3
	for _, c := range badShops() {
		for name, call := range badCalls() {
			if zero, e := call(c.s); !zero || e != c.want {
				t.Error(name, c.s, zero, e, c.want)
			}
		}
	}
}

func TestNumbersOfPaintsAndFeudsThatAreNone(t *testing.T) { // P3.1: ErrNone
	for _, s := range []api.Shop{shop(1), shop(3, [2]int{0, 1}), all(7)} {
		for _, n := range []int{-1, math.MinInt, math.MaxInt, 21} {
			if l, e := feud.Feuds(s, n); len(l) != 0 || e != api.ErrNone {
				t.Error(s, n, l, e)
			}
		}
		if l, e := feud.Feuds(s, s.Paints); len(l) != 0 || e != api.ErrNone {
			t.Error(s, l, e)
		}
		for _, k := range []int{-1, math.MinInt, math.MaxInt, len(s.Feuds)} {
			if r, e := feud.Drop(s, k); !isNothing(r) || e != api.ErrNone {
				t.Error(s, k, r, e)
			}
			if r, e := feud.Merge(s, k); !isNothing(r) || e != api.ErrNone {
				t.Error(s, k, r, e)
			}
		}
	}
}

func TestSetsThatAreNone(t *testing.T) { // P3.1: ErrArg
	for _, set := range [][]int{{1, 0}, {0, 0}, {0, 2, 1}, {-1}, {-1, 0}, {4}, {0, 1, 2, 3, 4}, {math.MinInt}, {0, math.MaxInt}, make([]int, 100)} {
		if ok, e := feud.IsCalm(ring(4, 4), set); ok || e != api.ErrArg {
			t.Error(set, ok, e)
		}
		if ok, e := feud.IsBitter(ring(4, 4), set); ok || e != api.ErrArg {
			t.Error(set, ok, e)
		}
	}
}

func TestFeuds(t *testing.T) { // P3.2
	if l, e := feud.Feuds(shop(4, [2]int{2, 3}, [2]int{0, 2}), 2); !slices.Equal(l, []int{0, 3}) || e != api.OK {
		t.Error(l, e)
	}
	if l, e := feud.Feuds(shop(4, [2]int{2, 3}), 0); len(l) != 0 || e != api.OK {
		t.Error(l, e)
	}
	for _, s := range someShops() {
		for paint := range s.Paints {
			if l, e := feud.Feuds(s, paint); !slices.Equal(l, foesOf(s, paint)) || e != api.OK {
				t.Error(s, paint, l, e)
			}
		}
	}
}

func TestCalmAndBitterSets(t *testing.T) { // P3.2
	for _, s := range someShops() {
		for _, set := range setsOf(s.Paints) {
			calm, e := feud.IsCalm(s, set)
			bitter, f := feud.IsBitter(s, set)
			if calm != isCalm(s, set) || e != api.OK || bitter != isBitter(s, set) || f != api.OK {
				t.Error(s, set, calm, e, bitter, f)
			}
			if len(set) < 2 && !(calm && bitter) {
				t.Error(s, set, calm, bitter)
			}
		}
	}
}

func TestCalmAndBitter(t *testing.T) { // P3.2
	for _, c := range []struct {
		s            api.Shop
		calm, bitter []int
	}{
		{shop(1), []int{0}, []int{0}},
		{shop(3), []int{0, 1, 2}, []int{0}},
		{all(3), []int{0}, []int{0, 1, 2}},
		{ring(4, 4), []int{0, 2}, []int{0, 1}},
		{shop(5, [2]int{0, 1}, [2]int{1, 2}, [2]int{3, 4}, [2]int{2, 4}, [2]int{2, 3}), []int{0, 2}, []int{2, 3, 4}},
		{sides(7, 3), []int{3, 4, 5, 6}, []int{0, 3}},
	} {
		calm, e := feud.Calm(c.s)
		bitter, f := feud.Bitter(c.s)
		if !slices.Equal(calm, c.calm) || e != api.OK || !slices.Equal(bitter, c.bitter) || f != api.OK {
			t.Error(c, calm, e, bitter, f)
		}
	}
	for _, s := range someShops() {
		sets := setsOf(s.Paints)
		calm, e := feud.Calm(s)
		want := firstGreatest(sets, func(set []int) bool { return isCalm(s, set) })
		if !slices.Equal(calm, want) || e != api.OK {
			t.Error(s, calm, e, want)
		}
		bitter, e := feud.Bitter(s)
		want = firstGreatest(sets, func(set []int) bool { return isBitter(s, set) })
		if !slices.Equal(bitter, want) || e != api.OK {
			t.Error(s, bitter, e, want)
		}
	}
}

func TestGroups(t *testing.T) { // P3.2
	for _, c := range []struct {
		s    api.Shop
		want [][]int
	}{
		{shop(3), [][]int{{0}, {1}, {2}}},
		{shop(1), [][]int{{0}}},
		{shop(5, [2]int{3, 4}, [2]int{0, 3}), [][]int{{0, 3, 4}, {1}, {2}}},
		{shop(6, [2]int{1, 5}, [2]int{0, 4}, [2]int{2, 4}), [][]int{{0, 2, 4}, {1, 5}, {3}}},
		{shop(7, [2]int{0, 6}, [2]int{1, 6}, [2]int{1, 5}, [2]int{2, 5}, [2]int{2, 4}, [2]int{3, 4}), [][]int{{0, 1, 2, 3, 4, 5, 6}}},
	} {
		if l, e := feud.Groups(c.s); !slices.EqualFunc(l, c.want, slices.Equal[[]int]) || e != api.OK {
			t.Error(c, l, e)
		}
	}
	for _, s := range someShops() {
		l, e := feud.Groups(s)
		if e != api.OK || !slices.EqualFunc(l, groupsOf(s), slices.Equal[[]int]) {
			t.Error(s, l, e, groupsOf(s))
		}
	}
}

// groupsOf returns the groups by giving both paints of a feud the smaller one of their marks, until nothing changes.
func groupsOf(s api.Shop) [][]int {
	marks := make([]int, s.Paints)
	for paint := range marks {
		marks[paint] = paint
	}
	for range s.Paints {
		for _, f := range s.Feuds {
			mark := min(marks[f.A], marks[f.B])
			marks[f.A], marks[f.B] = mark, mark
		}
	}
	var groups [][]int
	for mark := range s.Paints {
		var group []int
		for paint, m := range marks {
			if m == mark {
				group = append(group, paint)
			}
		}
		if len(group) > 0 {
			groups = append(groups, group)
		}
	}
	return groups
}

func TestOpposite(t *testing.T) { // P3.2
	for _, s := range someShops() {
		r, e := feud.Opposite(s)
		if want := shopWhere(s.Paints, func(a, b int) bool { return !isFeud(s, a, b) }); !isSame(r, want) || e != api.OK {
			t.Error(s, r, e, want)
		}
		calm, _ := feud.Calm(r)
		if bitter, _ := feud.Bitter(s); !slices.Equal(calm, bitter) {
			t.Error(s, calm, bitter)
		}
		if back, e := feud.Opposite(r); !isSame(back, ascending(s)) || e != api.OK {
			t.Error(s, back, e)
		}
	}
}

// results returns what all functions return for a shop and arguments that fit it.
func results(s api.Shop) []any {
	var out []any
	add := func(results ...any) { out = append(out, results...) }
	one := func(l any, e api.Errno) { add(l, e) }
	one(feud.Feuds(s, 0))
	one(feud.IsCalm(s, []int{0}))
	one(feud.Calm(s))
	one(feud.Bitter(s))
	one(feud.Groups(s))
	one(feud.Fewest(s))
	for k := 1; k <= api.MaxShelves; k++ {
		l, ok, e := feud.Shelve(s, k)
		add(l, ok, e)
		one(feud.Count(s, k))
	}
	one(feud.Terms(s))
	one(feud.Orders(s))
	round, ok, e := feud.Odd(s)
	add(round, ok, e)
	for k := range s.Feuds {
		one(feud.Drop(s, k))
		one(feud.Merge(s, k))
	}
	one(feud.Opposite(s))
	return out
}

func TestEqualCallsAndArguments(t *testing.T) { // R5, R11: also where a result is free
	for _, s := range someShops() {
		before := slices.Clone(s.Feuds)
		first := results(s)
		for range 3 {
			if !reflect.DeepEqual(first, results(s)) {
				t.Error(s)
			}
		}
		if !slices.Equal(before, s.Feuds) {
			t.Error("an argument is changed", before, s.Feuds)
		}
	}
}

func TestResultsAreNewMemory(t *testing.T) { // R5
	s := all(4)
	for k := range s.Feuds {
		dropped, _ := feud.Drop(s, k)
		merged, _ := feud.Merge(s, k)
		for _, r := range []api.Shop{dropped, merged} {
			clear(r.Feuds[:cap(r.Feuds)])
		}
	}
	opposite, _ := feud.Opposite(shop(4))
	clear(opposite.Feuds[:cap(opposite.Feuds)])
	order := []int{3, 2, 1, 0}
	l, _ := feud.Line(s, order)
	clear(l[:cap(l)])
	if !isSame(s, all(4)) || !slices.Equal(order, []int{3, 2, 1, 0}) {
		t.Error(s, order)
	}
	for i := range 3 {
		groups, _ := feud.Groups(shop(4, [2]int{0, 2}))
		clear(groups[i][:cap(groups[i])])
		want := [][]int{{0, 2}, {1}, {3}}
		clear(want[i])
		if !slices.EqualFunc(groups, want, slices.Equal[[]int]) {
			t.Error("two groups share memory", i, groups)
		}
	}
}
