package sun_test

import (
	"math"
	"slices"
	"testing"

	"verditer/api"
	"verditer/sun"
)

func TestBack(t *testing.T) { // P5.7
	for _, table := range someTables() {
		r, e := sun.Back(table)
		if want := tableWhere(len(table), func(a, b int) bool { return beats(table, b, a) }); !areSame(r, want) || e != api.OK {
			t.Fatal(table, r, e)
		}
		if ringsOf(t, r) != ringsOf(t, table) || fewestOf(t, r) != fewestOf(t, table) {
			t.Error(table, r)
		}
	}
}

func TestSwitch(t *testing.T) { // P5.7
	if r, e := sun.Switch(line(3), 2, 0); !areSame(r, ring()) || e != api.OK {
		t.Error(r, e)
	}
	for _, table := range someTables() {
		fewest := fewestOf(t, table)
		for a := range table {
			for b := range table {
				r, e := sun.Switch(table, a, b)
				if a == b {
					if len(r) != 0 || e != api.ErrArg {
						t.Error(table, a, b, r, e)
					}
					continue
				}
				want := copyOf(table)
				want[a][b] = 1 - want[a][b]
				want[b][a] = 1 - want[b][a]
				if !areSame(r, want) || e != api.OK {
					t.Fatal(table, a, b, r, e)
				}
				if n := fewestOf(t, r); n < fewest-1 || n > fewest+1 {
					t.Error(table, a, b, n, fewest)
				}
			}
		}
	}
}

func TestRename(t *testing.T) { // P5.7
	if r, e := sun.Rename(line(3), []int{2, 0, 1}); !areSame(r, [][]int{{0, 1, 0}, {0, 0, 0}, {1, 1, 0}}) || e != api.OK {
		t.Error(r, e)
	}
	for _, table := range smallTables(5) {
		eachChoice(len(table), len(table), func(to []int) { checkRename(t, table, to) })
	}
	for _, table := range largeTables() {
		for first := range table {
			to := []int{first}
			for strip := range table {
				if strip != first {
					to = append(to, strip)
				}
			}
			checkRename(t, table, to)
			if n, m := fewestOf(t, table), fewestOf(t, renamed(table, to)); n != m {
				t.Error(table, to, n, m)
			}
		}
	}
}

// checkRename checks Rename by the definition, and what follows for the rings and the wins.
func checkRename(t *testing.T, table [][]int, to []int) {
	t.Helper()
	r, e := sun.Rename(table, to)
	if !areSame(r, renamed(table, to)) || e != api.OK {
		t.Fatal(table, to, r, e)
	}
	if ringsOf(t, r) != ringsOf(t, table) {
		t.Error(table, to, r)
	}
	wins := winsOf(t, r)
	for strip, n := range winsOf(t, table) {
		if wins[to[strip]] != n {
			t.Error(table, to, r)
		}
	}
}

// renamed is Rename, found from the new numbers back.
func renamed(t [][]int, to []int) [][]int {
	return tableWhere(len(t), func(a, b int) bool { return beats(t, slices.Index(to, a), slices.Index(to, b)) })
}

func TestAdd(t *testing.T) { // P5.7
	if r, e := sun.Add(line(2), []int{1, 0}); !areSame(r, ring()) || e != api.OK {
		t.Error(r, e)
	}
	if r, e := sun.Add(line(1), []int{0}); !areSame(r, line(2)) || e != api.OK {
		t.Error(r, e)
	}
	tooLarge := func(table [][]int) bool { return len(table) == api.MaxStrips }
	for _, table := range append(smallTables(4), slices.DeleteFunc(largeTables(), tooLarge)...) {
		n := len(table)
		eachList(n, 0, 1, func(l []int) {
			want := tableWhere(n+1, func(a, b int) bool {
				switch n {
				case a:
					return l[b] == 1
				case b:
					return l[a] == 0
				}
				return beats(table, a, b)
			})
			r, e := sun.Add(table, l)
			if !areSame(r, want) || e != api.OK {
				t.Fatal(table, l, r, e)
			}
			if fewestOf(t, r) < fewestOf(t, table) {
				t.Error(table, l, r)
			}
		})
	}
}

func TestAddsThatAreNone(t *testing.T) { // P5.7: ErrArg before ErrLarge
	for i, c := range []struct {
		t     [][]int
		beats []int
		want  api.Errno
	}{
		{ring(), nil, api.ErrArg},
		{ring(), []int{1, 0}, api.ErrArg},
		{ring(), []int{1, 0, 1, 0}, api.ErrArg},
		{ring(), []int{1, 0, 2}, api.ErrArg},
		{ring(), []int{-1, 0, 1}, api.ErrArg},
		{ring(), []int{math.MinInt, 0, math.MaxInt}, api.ErrArg},
		{wheel(7), []int{0, 0, 0, 0, 0, 0}, api.ErrArg},
		{wheel(7), make([]int, 8), api.ErrArg},
		{wheel(7), []int{0, 0, 0, 0, 0, 0, 2}, api.ErrArg},
		{wheel(7), []int{1, 1, 1, 1, 1, 1, 1}, api.ErrLarge},
		{line(7), make([]int, 7), api.ErrLarge},
	} {
		if r, e := sun.Add(c.t, c.beats); len(r) != 0 || e != c.want {
			t.Error(i, r, e)
		}
	}
}
