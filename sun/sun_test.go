package sun_test

import (
	"math"
	"reflect"
	"slices"
	"testing"

	"verditer/api"
	"verditer/sun"
)

func TestValidate(t *testing.T) { // P5.1
	for _, table := range someTables() {
		if e := sun.Validate(table); e != api.OK {
			t.Error(table, e)
		}
	}
	for _, c := range badTables() {
		if e := sun.Validate(c.t); e != c.want {
			t.Error(c.t, e, c.want)
		}
	}
}

func TestValidateByTheDefinition(t *testing.T) { // P5.1
	for _, c := range []struct{ strips, least, most int }{{1, -2, 3}, {2, -1, 2}, {3, 0, 1}} {
		tables := smallTables(c.strips)
		eachList(c.strips*c.strips, c.least, c.most, func(l []int) {
			table := slices.Collect(slices.Chunk(l, c.strips))
			want := api.ErrArg
			if slices.ContainsFunc(tables, func(t [][]int) bool { return areSame(t, table) }) {
				want = api.OK
			}
			if e := sun.Validate(table); e != want {
				t.Error(table, e, want)
			}
		})
	}
}

// call is a call of a function: whether all results but the error are zero, and the error.
type call func(t [][]int) (bool, api.Errno)

// badCalls has a call of each function that takes a table; other arguments are wrong for any table.
func badCalls() map[string]call {
	return map[string]call{
		"Wins":       func(t [][]int) (bool, api.Errno) { l, e := sun.Wins(t); return len(l) == 0, e },
		"Rings":      func(t [][]int) (bool, api.Errno) { n, e := sun.Rings(t); return n == 0, e },
		"CheckRow":   func(t [][]int) (bool, api.Errno) { return true, sun.CheckRow(t, []int{-1}) },
		"Row":        func(t [][]int) (bool, api.Errno) { l, e := sun.Row(t); return len(l) == 0, e },
		"Kings":      func(t [][]int) (bool, api.Errno) { l, e := sun.Kings(t); return len(l) == 0, e },
		"Groups":     func(t [][]int) (bool, api.Errno) { l, e := sun.Groups(t); return len(l) == 0, e },
		"CheckRound": func(t [][]int) (bool, api.Errno) { return true, sun.CheckRound(t, []int{-1}) },
		"Round":      func(t [][]int) (bool, api.Errno) { l, ok, e := sun.Round(t, -1, 2); return len(l) == 0 && !ok, e },
		"Upsets":     func(t [][]int) (bool, api.Errno) { n, e := sun.Upsets(t, []int{-1}); return n == 0, e },
		"Fewest":     func(t [][]int) (bool, api.Errno) { n, e := sun.Fewest(t); return n == 0, e },
		"Ranking":    func(t [][]int) (bool, api.Errno) { l, e := sun.Ranking(t); return len(l) == 0, e },
		"Back":       func(t [][]int) (bool, api.Errno) { l, e := sun.Back(t); return len(l) == 0, e },
		"Switch":     func(t [][]int) (bool, api.Errno) { l, e := sun.Switch(t, -1, -1); return len(l) == 0, e },
		"Rename":     func(t [][]int) (bool, api.Errno) { l, e := sun.Rename(t, []int{-1}); return len(l) == 0, e },
		"Add":        func(t [][]int) (bool, api.Errno) { l, e := sun.Add(t, []int{-1}); return len(l) == 0, e },
	}
}

func TestErrorsOfValidateComeFirst(t *testing.T) { // P5.1, R2, R3
	for _, c := range badTables() {
		for name, call := range badCalls() {
			if zero, e := call(c.t); !zero || e != c.want {
				t.Error(name, c.t, zero, e, c.want)
			}
		}
	}
}

func TestNumbersOfStripsThatAreNone(t *testing.T) { // P5.1: ErrNone, also where ErrArg applies
	for _, table := range [][][]int{line(1), ring(), wheel(7)} {
		for _, n := range []int{-1, len(table), math.MinInt, math.MaxInt} {
			for _, length := range []int{2, 3, 7, 8} {
				if l, ok, e := sun.Round(table, n, length); len(l) != 0 || ok || e != api.ErrNone {
					t.Error(table, n, length, l, ok, e)
				}
			}
			for _, c := range [][2]int{{n, 0}, {0, n}, {n, n}, {n, -2}} {
				if l, e := sun.Switch(table, c[0], c[1]); len(l) != 0 || e != api.ErrNone {
					t.Error(table, c, l, e)
				}
			}
		}
	}
}

func TestOrdersThatAreNone(t *testing.T) { // P5.1: ErrArg
	for _, l := range [][]int{nil, {}, {0}, {0, 1}, {0, 1, 1}, {0, 1, 3}, {-1, 0, 1}, {0, 1, 2, 2}, {0, 1, 2, 3}, {1, 2, 3}, {2, 0, 2}, {math.MinInt, 0, math.MaxInt}, make([]int, 100)} {
		if e := sun.CheckRow(ring(), l); e != api.ErrArg {
			t.Error(l, e)
		}
		if n, e := sun.Upsets(ring(), l); n != 0 || e != api.ErrArg {
			t.Error(l, n, e)
		}
		if r, e := sun.Rename(ring(), l); len(r) != 0 || e != api.ErrArg {
			t.Error(l, r, e)
		}
	}
}

func TestExamples(t *testing.T) { // P5.2, P5.3
	for _, c := range []struct {
		t      [][]int
		wins   []int
		rings  int
		kings  []int
		groups [][]int
	}{
		{ring(), []int{1, 1, 1}, 1, []int{0, 1, 2}, [][]int{{0, 1, 2}}},
		{line(1), []int{0}, 0, []int{0}, [][]int{{0}}},
		{[][]int{{0, 0}, {1, 0}}, []int{0, 1}, 0, []int{1}, [][]int{{1}, {0}}},
		{line(3), []int{2, 1, 0}, 0, []int{0}, [][]int{{0}, {1}, {2}}},
		{line(7), []int{6, 5, 4, 3, 2, 1, 0}, 0, []int{0}, [][]int{{0}, {1}, {2}, {3}, {4}, {5}, {6}}},
		{wheel(5), []int{2, 2, 2, 2, 2}, 5, []int{0, 1, 2, 3, 4}, [][]int{{0, 1, 2, 3, 4}}},
		{wheel(7), []int{3, 3, 3, 3, 3, 3, 3}, 14, []int{0, 1, 2, 3, 4, 5, 6}, [][]int{{0, 1, 2, 3, 4, 5, 6}}},
		{grouped(), []int{1, 5, 3, 1, 5, 1, 5}, 2, []int{1, 4, 6}, [][]int{{1, 4, 6}, {2}, {0, 3, 5}}},
		{[][]int{{0, 1, 1, 0}, {0, 0, 1, 1}, {0, 0, 0, 1}, {1, 0, 0, 0}}, []int{2, 2, 1, 1}, 2, []int{0, 1, 3}, [][]int{{0, 1, 2, 3}}},
	} {
		kings, e := sun.Kings(c.t)
		groups, f := sun.Groups(c.t)
		if !slices.Equal(winsOf(t, c.t), c.wins) || ringsOf(t, c.t) != c.rings || !slices.Equal(kings, c.kings) || e != api.OK || !areSame(groups, c.groups) || f != api.OK {
			t.Error(c, winsOf(t, c.t), ringsOf(t, c.t), kings, e, groups, f)
		}
	}
}

func TestWins(t *testing.T) { // P5.2
	for _, table := range someTables() {
		for strip, n := range winsOf(t, table) {
			for _, one := range table[strip] {
				n -= one
			}
			if n != 0 {
				t.Error(table, strip, n)
			}
		}
	}
}

func TestRings(t *testing.T) { // P5.2, S5
	for _, table := range someTables() {
		want := 0
		eachChoice(len(table), min(3, len(table)), func(l []int) {
			if len(l) == 3 && l[0] == slices.Min(l) && isRound(table, l) {
				want++
			}
		})
		n := len(table)
		byWins := n * (n - 1) * (n - 2) / 6
		for _, wins := range winsOf(t, table) {
			byWins -= wins * (wins - 1) / 2
		}
		if rings := ringsOf(t, table); rings != want || rings != byWins {
			t.Error(table, rings, want, byWins)
		}
	}
}

func TestKings(t *testing.T) { // P5.3, S5
	for _, table := range someTables() {
		kings, e := sun.Kings(table)
		var want []int
		for a := range table {
			if isKing(table, a) {
				want = append(want, a)
			}
		}
		if !slices.Equal(kings, want) || e != api.OK {
			t.Error(table, kings, want, e)
		}
		wins := winsOf(t, table)
		most := slices.Max(wins)
		for strip, n := range wins {
			if n == most && !slices.Contains(kings, strip) {
				t.Error(table, kings, strip)
			}
		}
		if len(kings) == 0 || len(kings) == 2 || (len(kings) == 1) != (most == len(table)-1) {
			t.Error(table, kings)
		}
	}
}

// isKing reports whether a strip is a king, by the definition.
func isKing(t [][]int, a int) bool {
	for b := range t {
		good := a == b || beats(t, a, b)
		for over := range t {
			good = good || beats(t, a, over) && beats(t, over, b)
		}
		if !good {
			return false
		}
	}
	return true
}

func TestGroups(t *testing.T) { // P5.3
	for _, table := range someTables() {
		groups, e := sun.Groups(table)
		if !areSame(groups, groupsOf(table)) || e != api.OK {
			t.Error(table, groups, e)
		}
		kings, _ := sun.Kings(table)
		for i, group := range groups {
			for _, strip := range group {
				if i > 0 && slices.Contains(kings, strip) || !beatsAll(table, strip, groups[i+1:]) {
					t.Error(table, groups, kings, strip)
				}
			}
		}
	}
}

// beatsAll reports whether a strip beats all strips of some groups.
func beatsAll(t [][]int, strip int, groups [][]int) bool {
	for _, other := range slices.Concat(groups...) {
		if !beats(t, strip, other) {
			return false
		}
	}
	return true
}

// results returns what the functions return for a table and arguments that fit it.
func results(t [][]int, order []int) []any {
	var out []any
	one := func(l any, e api.Errno) { out = append(out, l, e) }
	two := func(l [][]int, ok bool, e api.Errno) { out = append(out, l, ok, e) }
	wins, _ := sun.Wins(t)
	one(sun.Wins(t))
	one(sun.Rings(t))
	one(sun.Row(t))
	one(sun.Kings(t))
	one(sun.Groups(t))
	one(sun.Upsets(t, order))
	one(sun.Fewest(t))
	one(sun.Ranking(t))
	one(sun.CanWin(wins))
	two(sun.Make(wins))
	one(sun.Back(t))
	one(sun.Switch(t, 0, len(t)-1))
	one(sun.Rename(t, order))
	one(sun.Add(t, t[0]))
	for strip := range t {
		for length := 3; length <= api.MaxStrips; length++ {
			l, ok, e := sun.Round(t, strip, length)
			two([][]int{l}, ok, e)
		}
	}
	out = append(out, sun.CheckRow(t, order), sun.CheckRound(t, order))
	return out
}

func TestEqualCallsAndArguments(t *testing.T) { // R5, R11: also where a result is free
	for _, table := range someTables() {
		var order []int
		for strip := range table {
			order = append([]int{strip}, order...)
		}
		before, orderBefore := copyOf(table), slices.Clone(order)
		first := results(table, order)
		if !reflect.DeepEqual(first, results(copyOf(table), order)) {
			t.Error(table)
		}
		if !areSame(before, table) || !slices.Equal(order, orderBefore) {
			t.Error("an argument is changed", before, table, order)
		}
	}
}

func TestResultsAreNewMemory(t *testing.T) { // R5
	table, order, wins := grouped(), []int{6, 5, 4, 3, 2, 1, 0}, []int{1, 5, 3, 1, 5, 1, 5}
	six := line(6)
	lists := func() map[string][][]int {
		out := map[string][][]int{}
		out["Groups"], _ = sun.Groups(table)
		out["Back"], _ = sun.Back(table)
		out["Switch"], _ = sun.Switch(table, 5, 2)
		out["Rename"], _ = sun.Rename(table, order)
		out["Make"], _, _ = sun.Make(wins)
		out["Add"], _ = sun.Add(six, six[3])
		return out
	}
	want := lists()
	for name := range want {
		for i := range want[name] {
			spoiled := lists()[name]
			l := spoiled[i][:cap(spoiled[i])]
			for j := range l {
				l[j] = 9
			}
			for j, other := range spoiled {
				if j != i && !slices.Equal(other, want[name][j]) {
					t.Error("two lists share memory", name, i, j)
				}
			}
		}
	}
	if !reflect.DeepEqual(want, lists()) || !areSame(table, grouped()) || !areSame(six, line(6)) {
		t.Error(table, order, wins, six)
	}
}
