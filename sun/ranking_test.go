package sun_test

import (
	"slices"
	"testing"

	"verditer/api"
	"verditer/sun"
)

func TestUpsets(t *testing.T) { // P5.5
	for _, c := range []struct {
		t     [][]int
		order []int
		want  int
	}{
		{line(1), []int{0}, 0},
		{line(2), []int{0, 1}, 0},
		{line(2), []int{1, 0}, 1},
		{ring(), []int{0, 1, 2}, 1},
		{ring(), []int{0, 2, 1}, 2},
		{line(4), []int{0, 2, 1, 3}, 1},
		{line(7), []int{6, 5, 4, 3, 2, 1, 0}, 21},
		{grouped(), []int{1, 4, 6, 2, 0, 3, 5}, 2},
	} {
		if n, e := sun.Upsets(c.t, c.order); n != c.want || e != api.OK {
			t.Error(c, n, e)
		}
	}
	for _, table := range smallTables(5) {
		eachChoice(len(table), len(table), func(order []int) {
			n, e := sun.Upsets(table, order)
			if n != upsetsOf(table, order) || e != api.OK {
				t.Error(table, order, n, e)
			}
			slices.Reverse(order)
			if m, e := sun.Upsets(table, order); n+m != len(order)*(len(order)-1)/2 || e != api.OK {
				t.Error(table, order, n, m, e)
			}
			slices.Reverse(order)
		})
	}
}

func TestFewestAndRanking(t *testing.T) { // P5.5
	for _, c := range []struct {
		t       [][]int
		fewest  int
		ranking []int
	}{
		{line(1), 0, []int{0}},
		{[][]int{{0, 0}, {1, 0}}, 0, []int{1, 0}},
		{ring(), 1, []int{0, 1, 2}},
		{[][]int{{0, 0, 1}, {1, 0, 0}, {0, 1, 0}}, 1, []int{0, 2, 1}},
		{line(7), 0, []int{0, 1, 2, 3, 4, 5, 6}},
		{wheel(5), 3, []int{0, 1, 2, 3, 4}},
		{wheel(7), 6, []int{0, 1, 2, 3, 4, 5, 6}},
		{grouped(), 2, []int{1, 4, 6, 2, 0, 3, 5}},
	} {
		l, e := sun.Ranking(c.t)
		if fewestOf(t, c.t) != c.fewest || !slices.Equal(l, c.ranking) || e != api.OK {
			t.Error(c, fewestOf(t, c.t), l, e)
		}
	}
	for _, table := range someTables() {
		var first []int
		eachChoice(len(table), len(table), func(order []int) {
			if first == nil || upsetsOf(table, order) < upsetsOf(table, first) {
				first = order
			}
		})
		l, e := sun.Ranking(table)
		fewest := fewestOf(t, table)
		if !slices.Equal(l, first) || e != api.OK || fewest != upsetsOf(table, first) {
			t.Error(table, l, e, fewest, first)
		}
		if (fewest == 0) != (ringsOf(t, table) == 0) || sun.CheckRow(table, l) != api.OK {
			t.Error(table, l, fewest)
		}
	}
}
