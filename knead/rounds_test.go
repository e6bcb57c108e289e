package knead_test

import (
	"slices"
	"testing"

	"verditer/api"
	"verditer/knead"
)

func TestTimes(t *testing.T) { // P7.3: the first time that the dough is as it was
	for _, n := range evens() {
		for kind := range 2 {
			want, dough := 1, folded(numbered(n), kind)
			for !slices.Equal(dough, numbered(n)) {
				want++
				dough = folded(dough, kind)
			}
			if times, e := knead.Times(n, kind); times != want || e != api.OK {
				t.Error(n, kind, times, e, want)
			}
		}
	}
}

func TestTimesOfTheChapter(t *testing.T) { // P7.3: example 2, and the smallest and the largest dough
	for _, c := range []struct{ n, out, in int }{{6, 4, 3}, {8, 3, 6}, {2, 1, 2}, {32, 5, 10}} {
		if out, in := timesOf(t, c.n, 0), timesOf(t, c.n, 1); out != c.out || in != c.in {
			t.Error(c, out, in)
		}
	}
}

func TestRounds(t *testing.T) { // P7.3: each lump goes round by itself
	for _, n := range evens() {
		for kind := range 2 {
			var want []int
			left := numbered(n)
			for len(left) > 0 {
				length, place := 0, left[0]
				for slices.Contains(left, place) {
					left = slices.DeleteFunc(left, func(p int) bool { return p == place })
					place = placeBehind(n, []int{kind}, place)
					length++
				}
				want = append(want, length)
			}
			slices.Sort(want)
			if l, e := knead.Rounds(n, kind); !slices.Equal(l, want) || e != api.OK {
				t.Error(n, kind, l, e, want)
			}
		}
	}
}

func TestRoundsOfSomeDoughs(t *testing.T) { // P7.3
	for _, c := range []struct {
		n, kind int
		want    []int
	}{
		{2, 0, []int{1, 1}}, {2, 1, []int{2}}, {4, 0, []int{1, 1, 2}}, {4, 1, []int{4}}, {6, 0, []int{1, 1, 4}}, {6, 1, []int{3, 3}},
		{8, 0, []int{1, 1, 3, 3}}, {8, 1, []int{2, 6}}, {10, 0, []int{1, 1, 2, 6}},
	} {
		if l := roundsOf(t, c.n, c.kind); !slices.Equal(l, c.want) {
			t.Error(c, l)
		}
	}
}

func TestConsequencesOfTimes(t *testing.T) { // P7.3
	for _, n := range evens() {
		for kind := range 2 {
			times := timesOf(t, n, kind)
			for i := 1; i <= times; i++ {
				multiple := !slices.ContainsFunc(roundsOf(t, n, kind), func(length int) bool { return i%length != 0 })
				if multiple != (i == times) {
					t.Error("not the least common multiple", n, kind, i, times)
				}
			}
		}
		if n < 4 {
			continue
		}
		out := timesOf(t, n, 0)
		if in := timesOf(t, n-2, 1); in != out {
			t.Error(n, out, in)
		}
		rest := 1
		for i := 1; i <= out; i++ {
			rest = 2 * rest % (n - 1)
			if (rest == 1) != (i == out) {
				t.Error("no power of 2", n, i, out)
			}
		}
	}
}

// exchanges returns how many exchanges of two lumps put a dough into ascending order.
func exchanges(dough []int) int {
	count, dough := 0, slices.Clone(dough)
	for place := range dough {
		for dough[place] != place {
			other := dough[place]
			dough[place], dough[other] = dough[other], dough[place]
			count++
		}
	}
	return count
}

func TestIsOdd(t *testing.T) { // P7.5
	for _, n := range evens() {
		for _, word := range someWords() {
			want := exchanges(behind(numbered(n), word))%2 == 1
			if odd := isOdd(t, n, word); odd != want {
				t.Error(n, word, odd)
			}
		}
	}
}

func TestIsOddOfTwoWords(t *testing.T) { // P7.5: the consequence
	words := append(shortWords(4), longWords()[3:10]...)
	for _, n := range evens() {
		for _, v := range words {
			for _, w := range words {
				if odd := isOdd(t, n, slices.Concat(v, w)); odd != (isOdd(t, n, v) != isOdd(t, n, w)) {
					t.Error(n, v, w, odd)
				}
			}
		}
	}
}

func TestStill(t *testing.T) { // P7.5
	for _, n := range evens() {
		for _, word := range someWords() {
			want := 0
			for place := range n {
				if placeBehind(n, word, place) == place {
					want++
				}
			}
			if still, e := knead.Still(n, word); still != want || e != api.OK {
				t.Error(n, word, still, e, want)
			}
		}
	}
}

func TestStillOfSomeWords(t *testing.T) { // P7.5
	for _, c := range []struct {
		n    int
		word []int
		want int
	}{{2, nil, 2}, {32, nil, 32}, {2, []int{1}, 0}, {6, []int{0}, 2}, {8, []int{1}, 0}, {8, []int{0, 0, 0}, 8}, {4, []int{0, 0, 1, 1, 1, 1}, 4}} {
		if still, e := knead.Still(c.n, c.word); still != c.want || e != api.OK {
			t.Error(c, still, e)
		}
	}
}
