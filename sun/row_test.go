package sun_test

import (
	"math"
	"slices"
	"testing"

	"verditer/api"
	"verditer/sun"
)

func TestCheckRow(t *testing.T) { // P5.2
	for i, c := range []struct {
		t    [][]int
		row  []int
		want api.Errno
	}{
		{line(1), []int{0}, api.OK},
		{line(2), []int{0, 1}, api.OK},
		{line(2), []int{1, 0}, api.ErrProof},
		{ring(), []int{1, 2, 0}, api.OK},
		{ring(), []int{0, 2, 1}, api.ErrProof},
		{ring(), []int{0, 1}, api.ErrArg},
		{line(7), []int{0, 1, 2, 3, 4, 5, 6}, api.OK},
		{line(7), []int{0, 1, 2, 3, 4, 6, 5}, api.ErrProof},
		{line(7), []int{1, 0, 2, 3, 4, 5, 6}, api.ErrProof},
		{grouped(), []int{4, 6, 1, 2, 3, 5, 0}, api.OK},
	} {
		if e := sun.CheckRow(c.t, c.row); e != c.want {
			t.Error(i, e, c.want)
		}
	}
	for _, table := range smallTables(5) {
		eachChoice(len(table), len(table), func(l []int) {
			want := api.ErrProof
			if isPath(table, l) {
				want = api.OK
			}
			if e := sun.CheckRow(table, l); e != want {
				t.Error(table, l, e, want)
			}
		})
	}
}

func TestRow(t *testing.T) { // P5.2, S5
	for _, table := range someTables() {
		row, e := sun.Row(table)
		if e != api.OK || sun.CheckRow(table, row) != api.OK {
			t.Error(table, row, e)
		}
		rows := 0
		eachChoice(len(table), len(table), func(l []int) {
			if sun.CheckRow(table, l) == api.OK {
				rows++
			}
		})
		if (rows == 1) != (ringsOf(t, table) == 0) {
			t.Error(table, rows)
		}
	}
	for bits := range 1 << 15 {
		table := tableOf(6, bits)
		if row, e := sun.Row(table); e != api.OK || sun.CheckRow(table, row) != api.OK {
			t.Error(table, row, e)
		}
	}
}

func TestCheckRound(t *testing.T) { // P5.4
	for i, c := range []struct {
		t     [][]int
		round []int
		want  api.Errno
	}{
		{ring(), []int{0, 1, 2}, api.OK},
		{ring(), []int{2, 0, 1}, api.OK},
		{ring(), []int{0, 2, 1}, api.ErrProof},
		{line(3), []int{0, 1, 2}, api.ErrProof}, // the last one does not beat the first one
		{grouped(), []int{1, 4, 6}, api.OK},
		{grouped(), []int{3, 5, 0}, api.OK},
		{grouped(), []int{1, 4, 6, 2}, api.ErrProof},
		{wheel(7), []int{0, 1, 2, 3, 4, 5, 6}, api.OK},
		{wheel(7), []int{0, 3, 6, 2, 5, 1, 4}, api.OK},
		{wheel(7), []int{0, 3, 6, 2, 5}, api.OK},
		{wheel(7), []int{0, 1, 2, 3}, api.ErrProof},
		{ring(), nil, api.ErrArg},
		{ring(), []int{0}, api.ErrArg},
		{ring(), []int{0, 1}, api.ErrArg},
		{line(2), []int{0, 1, 0}, api.ErrArg},
		{ring(), []int{0, 1, 2, 0}, api.ErrArg},
		{ring(), []int{0, 1, 3}, api.ErrArg},
		{ring(), []int{-1, 0, 1}, api.ErrArg},
		{ring(), []int{math.MinInt, 0, math.MaxInt}, api.ErrArg},
		{wheel(7), make([]int, 100), api.ErrArg},
	} {
		if e := sun.CheckRound(c.t, c.round); e != c.want {
			t.Error(i, e, c.want)
		}
	}
	for _, table := range smallTables(4) {
		for n := range 6 {
			eachList(n, -1, len(table), func(l []int) { // -1 and the number of strips are no strips
				if e := sun.CheckRound(table, l); e != roundError(table, l) {
					t.Error(table, l, e)
				}
			})
		}
	}
}

// roundError is CheckRound of a table, as the document words it.
func roundError(t [][]int, l []int) api.Errno {
	if len(l) < 3 || slices.Min(l) < 0 || slices.Max(l) >= len(t) || len(slices.Compact(slices.Sorted(slices.Values(l)))) < len(l) {
		return api.ErrArg
	}
	if !isRound(t, l) {
		return api.ErrProof
	}
	return api.OK
}

func TestRound(t *testing.T) { // P5.4
	for _, table := range someTables() {
		for _, group := range groupsOf(table) {
			for _, strip := range group {
				for length := 3; length <= api.MaxStrips; length++ {
					checkRound(t, table, strip, length, length <= len(group))
				}
			}
		}
	}
}

func TestRoundByTrying(t *testing.T) { // P5.4
	for _, table := range smallTables(5) {
		for length := 3; length <= len(table); length++ {
			in := map[int]bool{} // the strips that are in some round
			eachChoice(len(table), length, func(l []int) { in[l[0]] = in[l[0]] || isRound(table, l) })
			for strip := range table {
				checkRound(t, table, strip, length, in[strip])
			}
		}
	}
}

// checkRound checks a result of Round, and whether there is one.
func checkRound(t *testing.T, table [][]int, strip, length int, want bool) {
	t.Helper()
	l, ok, e := sun.Round(table, strip, length)
	if ok != want || e != api.OK || !ok && len(l) != 0 {
		t.Error(table, strip, length, l, ok, e)
	}
	if ok && (len(l) != length || !slices.Contains(l, strip) || sun.CheckRound(table, l) != api.OK) {
		t.Error(table, strip, length, l)
	}
}

func TestLengthsOfRoundsThatAreNone(t *testing.T) { // P5.4: ErrArg
	for _, table := range [][][]int{line(1), ring(), wheel(7)} {
		for _, length := range []int{-1, 0, 1, 2, 8, math.MinInt, math.MaxInt} {
			if l, ok, e := sun.Round(table, 0, length); len(l) != 0 || ok || e != api.ErrArg {
				t.Error(table, length, l, ok, e)
			}
		}
	}
}
