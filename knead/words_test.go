package knead_test

import (
	"slices"
	"strconv"
	"testing"

	"verditer/api"
	"verditer/knead"
)

func TestPlace(t *testing.T) { // P7.2: the lump is there, and the rule of the chapter says so
	for _, n := range evens() {
		for _, word := range someWords() {
			dough := behind(numbered(n), word)
			for place := range n {
				to := placeOf(t, n, word, place)
				if to < 0 || to >= n || dough[to] != place || to != placeBehind(n, word, place) {
					t.Error(n, word, place, to)
				}
			}
		}
	}
}

func TestBring(t *testing.T) { // P7.4, S7
	for _, n := range evens() {
		for to := range n {
			var want []int
			for _, digit := range strconv.FormatInt(int64(to), 2) {
				want = append(want, int(digit-'0'))
			}
			if to == 0 {
				want = nil
			}
			word, e := knead.Bring(n, to)
			if !slices.Equal(word, want) || e != api.OK {
				t.Error(n, to, word, e, want)
			}
			if behind(numbered(n), word)[to] != 0 {
				t.Error(n, to, word)
			}
		}
	}
}

func TestBringOfTheChapter(t *testing.T) { // P7.4: example 3
	word, e := knead.Bring(8, 6)
	if !slices.Equal(word, []int{1, 1, 0}) || e != api.OK {
		t.Error(word, e)
	}
	for i, want := range []int{0, 1, 3, 6} {
		if place := placeOf(t, 8, word[:i], 0); place != want {
			t.Error(i, place)
		}
	}
}

func TestWay(t *testing.T) { // P7.4: the first of all words, the shorter ones first
	words := shortWords(5)
	for _, n := range evens() {
		for from := range n {
			for to := range n {
				first := slices.IndexFunc(words, func(word []int) bool { return placeBehind(n, word, from) == to })
				if first < 0 {
					t.Fatal(n, from, to)
				}
				word, ok, e := knead.Way(n, from, to)
				if !ok || !slices.Equal(word, words[first]) || e != api.OK {
					t.Error(n, from, to, word, ok, e, words[first])
				}
			}
		}
	}
}

func TestWayOfSomePlaces(t *testing.T) { // P7.4: the last two could begin with a 1, too: 1 0 0 0 0
	for _, c := range []struct {
		n, from, to int
		want        []int
	}{
		{8, 0, 0, nil}, {8, 7, 7, nil}, {2, 0, 1, []int{1}}, {2, 1, 0, []int{1}}, {8, 0, 6, []int{1, 1, 0}}, {8, 1, 4, []int{0, 0}}, {6, 1, 0, []int{1, 1}},
		{18, 2, 12, []int{0, 0, 0, 0, 1}}, {22, 5, 8, []int{0, 0, 1, 0, 1}},
	} {
		if word, ok, e := knead.Way(c.n, c.from, c.to); !ok || !slices.Equal(word, c.want) || e != api.OK {
			t.Error(c, word, ok, e)
		}
	}
}

func TestSame(t *testing.T) { // P7.5
	words := append(shortWords(4), longWords()...)
	for _, n := range evens() {
		for _, v := range words {
			for _, w := range words {
				want := slices.Equal(behind(numbered(n), v), behind(numbered(n), w))
				if is, e := knead.Same(n, v, w); is != want || e != api.OK {
					t.Error(n, v, w, is, e)
				}
			}
		}
	}
}

func TestSameWithFoldsThatComeBack(t *testing.T) { // P7.5, S7: Times folds of one kind do nothing
	for _, n := range evens() {
		for kind := range 2 {
			round := slices.Repeat([]int{kind}, timesOf(t, n, kind))
			for _, word := range shortWords(3) {
				if is, e := knead.Same(n, slices.Concat(word, round), word); !is || e != api.OK {
					t.Error(n, kind, word, is, e)
				}
			}
			if is, e := knead.Same(n, round[1:], nil); is != (len(round) == 1) || e != api.OK {
				t.Error(n, kind, is, e)
			}
		}
	}
}

func TestPower(t *testing.T) { // P7.5
	for _, word := range append(shortWords(5), longWords()...) {
		for times := range api.MaxFolds + 1 {
			var want []int
			for range times {
				want = append(want, word...)
			}
			if len(want) > api.MaxFolds {
				break
			}
			if l, e := knead.Power(word, times); !slices.Equal(l, want) || e != api.OK {
				t.Error(word, times, l, e)
			}
		}
	}
}
