package sun_test

import (
	"math"
	"slices"
	"testing"

	"verditer/api"
	"verditer/sun"
)

// ring is the first example of the chapter.
func ring() [][]int { return wheel(3) }

// wheel returns a table of an odd number of strips, each of which beats half of the others: those that come next.
func wheel(strips int) [][]int {
	return tableWhere(strips, func(a, b int) bool { return (b-a+strips)%strips <= strips/2 })
}

// line returns a table in which each strip beats the later ones.
func line(strips int) [][]int {
	return tableWhere(strips, func(a, b int) bool { return a < b })
}

// grouped has the groups 1 4 6, then 2, then 0 3 5.
func grouped() [][]int {
	order := []int{1, 4, 6, 2, 0, 3, 5}
	return tableWhere(7, func(a, b int) bool {
		i, j := slices.Index(order, a), slices.Index(order, b)
		if i == 0 && j == 2 || i == 2 && j == 0 || i == 4 && j == 6 || i == 6 && j == 4 { // turned, so that there are rings
			return i > j
		}
		return i < j
	})
}

// tableWhere returns the table in which a beats b if beats of the two is true, for different strips.
func tableWhere(strips int, beats func(a, b int) bool) [][]int {
	var t [][]int
	for a := range strips {
		answers := make([]int, strips)
		for b := range answers {
			if a != b && beats(a, b) {
				answers[b] = 1
			}
		}
		t = append(t, answers)
	}
	return t
}

// pairsOf returns all pairs of strips.
func pairsOf(strips int) [][2]int {
	var pairs [][2]int
	for a := range strips {
		for b := range a {
			pairs = append(pairs, [2]int{a, b})
		}
	}
	return pairs
}

// tableOf returns the table in which the bits tell for each pair which of the two strips beats the other one.
func tableOf(strips, bits int) [][]int {
	pairs := pairsOf(strips)
	return tableWhere(strips, func(a, b int) bool {
		i := slices.Index(pairs, [2]int{max(a, b), min(a, b)})
		return bits>>i&1 == 1 == (a > b)
	})
}

// smallTables has each table with at most so many strips.
func smallTables(most int) [][][]int {
	var tables [][][]int
	for strips := 1; strips <= most; strips++ {
		for bits := range 1 << len(pairsOf(strips)) {
			tables = append(tables, tableOf(strips, bits))
		}
	}
	return tables
}

// largeTables has some tables with 6 and 7 strips.
func largeTables() [][][]int {
	tables := [][][]int{line(6), line(7), wheel(7), grouped()}
	next := numbers()
	for strips := 6; strips <= 7; strips++ {
		for later := 1; later <= 5; later++ { // how likely it is that a later strip beats an earlier one
			for range 4 {
				bits := 0
				for range pairsOf(strips) {
					bits *= 2
					if next(8) < later {
						bits++
					}
				}
				tables = append(tables, tableOf(strips, bits))
			}
		}
	}
	return tables
}

// someTables has small and large tables.
func someTables() [][][]int {
	return append(smallTables(5), largeTables()...)
}

// numbers returns a source of numbers below n, the same ones in each run.
func numbers() func(n int) int {
	seed := 1
	return func(n int) int {
		seed = (seed*1103515245 + 12345) % (1 << 31)
		return (seed >> 8) % n
	}
}

// badTable is a table that is none, with the error of Validate.
type badTable struct {
	t    [][]int
	want api.Errno
}

// badTables has tables that are none; where two errors apply, the first one counts.
func badTables() []badTable {
	with := func(t [][]int, a, b, n int) [][]int {
		t[a][b] = n
		return t
	}
	return []badTable{
		{nil, api.ErrLarge}, {[][]int{}, api.ErrLarge}, {line(8), api.ErrLarge}, {make([][]int, 8), api.ErrLarge}, {make([][]int, 1000), api.ErrLarge},
		{[][]int{nil}, api.ErrArg},
		{make([][]int, 7), api.ErrArg},
		{[][]int{{1}}, api.ErrArg},
		{[][]int{{0, 0}}, api.ErrArg},
		{[][]int{{0, 1}, {0}}, api.ErrArg},
		{[][]int{{0}, {1, 0}}, api.ErrArg},
		{[][]int{{0, 1}, {}}, api.ErrArg},
		{[][]int{{0, 1, 0}, {0, 0, 0}}, api.ErrArg},
		{[][]int{{0, 1}, {0, 0}, {0, 0}}, api.ErrArg},
		{[][]int{{0, 1}, {1, 0}}, api.ErrArg},
		{[][]int{{0, 0}, {0, 0}}, api.ErrArg},
		{[][]int{{0, 2}, {-1, 0}}, api.ErrArg},
		{[][]int{{0, 2}, {0, 0}}, api.ErrArg},
		{[][]int{{0, 1}, {-1, 0}}, api.ErrArg},
		{[][]int{{0, math.MinInt}, {math.MaxInt, 0}}, api.ErrArg},
		{with(ring(), 2, 2, 1), api.ErrArg},
		{with(ring(), 0, 0, -1), api.ErrArg},
		{with(ring(), 1, 1, 2), api.ErrArg},
		{with(ring(), 0, 1, 0), api.ErrArg},
		{with(ring(), 0, 2, 1), api.ErrArg},
		{with(line(7), 6, 5, 1), api.ErrArg},
		{with(line(7), 0, 6, 0), api.ErrArg},
		{with(line(7), 6, 6, 1), api.ErrArg},
	}
}

// beats reports whether a strip beats another one.
func beats(t [][]int, a, b int) bool {
	return t[a][b] == 1
}

// isPath reports whether each strip of l beats the next one.
func isPath(t [][]int, l []int) bool {
	for i := range l {
		if i+1 < len(l) && !beats(t, l[i], l[i+1]) {
			return false
		}
	}
	return true
}

// isRound reports whether each strip of l beats the next one, and the last one the first one.
func isRound(t [][]int, l []int) bool {
	for i, strip := range l {
		if !beats(t, strip, l[(i+1)%len(l)]) {
			return false
		}
	}
	return true
}

// groupsOf returns the groups by the definition: from who reaches whom.
func groupsOf(t [][]int) [][]int {
	reach := copyOf(t)
	for over := range t {
		for a := range t {
			for b := range t {
				reach[a][b] |= reach[a][over] & reach[over][b]
			}
		}
	}
	var groups [][]int
	for a := range t {
		var group []int
		for b := range t {
			if a == b || reach[a][b]&reach[b][a] == 1 {
				group = append(group, b)
			}
		}
		if group[0] == a {
			groups = append(groups, group)
		}
	}
	slices.SortFunc(groups, func(l, r []int) int { return 1 - 2*t[l[0]][r[0]] })
	return groups
}

// upsetsOf counts the upsets of an order.
func upsetsOf(t [][]int, order []int) int {
	n := 0
	for _, p := range pairsOf(len(order)) {
		if beats(t, order[p[0]], order[p[1]]) {
			n++
		}
	}
	return n
}

// eachList calls f with each list of n numbers from least to most; the memory is the same for all of them.
func eachList(n, least, most int, f func(l []int)) {
	l := slices.Repeat([]int{least}, n)
	for {
		f(l)
		i := 0
		for i < n && l[i] == most {
			l[i] = least
			i++
		}
		if i == n {
			return
		}
		l[i]++
	}
}

// eachChoice calls f, in ascending order, with each list of n different strips.
func eachChoice(strips, n int, f func(l []int)) {
	var place func(l []int)
	place = func(l []int) {
		if len(l) == n {
			f(l)
			return
		}
		for strip := range strips {
			if !slices.Contains(l, strip) {
				place(append(slices.Clone(l), strip))
			}
		}
	}
	place(nil)
}

// areSame reports whether two lists of lists are equal; a nil slice is an empty one.
func areSame(l, r [][]int) bool {
	return slices.EqualFunc(l, r, slices.Equal[[]int])
}

// copyOf returns a table in new memory.
func copyOf(t [][]int) [][]int {
	var out [][]int
	for _, l := range t {
		out = append(out, slices.Clone(l))
	}
	return out
}

func winsOf(t *testing.T, table [][]int) []int {
	t.Helper()
	l, e := sun.Wins(table)
	if e != api.OK || len(l) != len(table) {
		t.Fatal(table, l, e)
	}
	return l
}

func ringsOf(t *testing.T, table [][]int) int {
	t.Helper()
	n, e := sun.Rings(table)
	if e != api.OK {
		t.Fatal(table, e)
	}
	return n
}

func fewestOf(t *testing.T, table [][]int) int {
	t.Helper()
	n, e := sun.Fewest(table)
	if e != api.OK {
		t.Fatal(table, e)
	}
	return n
}
