package knead_test

import (
	"math"
	"math/big"
	"reflect"
	"slices"
	"testing"

	"verditer/api"
	"verditer/knead"
)

// oneFold is a function that folds once, and the kind of its fold.
type oneFold struct {
	name string
	call func(dough []int) ([]int, api.Errno)
	kind int
}

func TestOneFold(t *testing.T) { // P7.2
	folds := []oneFold{{"Out", knead.Out, 0}, {"In", knead.In, 1}}
	undone := []oneFold{{"UnOut", knead.UnOut, 0}, {"UnIn", knead.UnIn, 1}}
	for _, n := range evens() {
		for _, dough := range doughs(n) {
			for _, f := range folds {
				if l, e := f.call(dough); !slices.Equal(l, folded(dough, f.kind)) || e != api.OK {
					t.Error(f.name, dough, l, e)
				}
			}
			for _, f := range undone {
				if l, e := f.call(dough); len(l) != n || !slices.Equal(folded(l, f.kind), dough) || e != api.OK {
					t.Error(f.name, dough, l, e)
				}
			}
		}
	}
}

func TestExampleOfTheChapter(t *testing.T) { // P7.2: example 1
	if l, e := knead.Out([]int{0, 1, 2, 3, 4, 5}); !slices.Equal(l, []int{0, 3, 1, 4, 2, 5}) || e != api.OK {
		t.Error(l, e)
	}
	if l, e := knead.In([]int{0, 1, 2, 3, 4, 5}); !slices.Equal(l, []int{3, 0, 4, 1, 5, 2}) || e != api.OK {
		t.Error(l, e)
	}
}

func TestFoldAndUnfold(t *testing.T) { // P7.2
	for _, n := range evens() {
		for _, dough := range doughs(n) {
			for _, word := range someWords() {
				if l, e := knead.Fold(dough, word); !slices.Equal(l, behind(dough, word)) || e != api.OK {
					t.Error(dough, word, l, e)
				}
				if l, e := knead.Unfold(dough, word); len(l) != n || !slices.Equal(behind(l, word), dough) || e != api.OK {
					t.Error(dough, word, l, e)
				}
			}
		}
	}
}

func TestFoldsComeBack(t *testing.T) { // P7.2, S7
	for _, n := range evens() {
		for _, word := range someWords() {
			there := foldOf(t, numbered(n), word)
			if back, e := knead.Unfold(there, word); !slices.Equal(back, numbered(n)) || e != api.OK {
				t.Error(n, word, back, e)
			}
		}
	}
}

// sumOf returns a and b added up, without a limit.
func sumOf(a, b int) string {
	return new(big.Int).Add(big.NewInt(int64(a)), big.NewInt(int64(b))).String()
}

// pairs reports whether opposite lumps add up to the same number, by the definition.
func pairs(dough []int) bool {
	for place, lump := range dough {
		if sumOf(lump, dough[len(dough)-1-place]) != sumOf(dough[0], dough[len(dough)-1]) {
			return false
		}
	}
	return true
}

func TestPairs(t *testing.T) { // P7.5, R6, R8: all doughs of these lumps
	extreme := []int{math.MinInt, math.MinInt + 1, -1 << 32, -2, -1, 0, 1, 2, 1 << 32, math.MaxInt - 1, math.MaxInt}
	for _, c := range []struct {
		n      int
		values []int
	}{{2, extreme}, {4, extreme}, {6, []int{-1, 0, 1, 2}}, {8, []int{0, 1}}} {
		eachDough(c.n, c.values, func(dough []int) {
			if ok := hasPairs(t, dough); ok != pairs(dough) {
				t.Error(dough, ok)
			}
		})
	}
}

func TestPairsOfLargeDoughs(t *testing.T) { // P7.5: the sum is 7 (at the greatest: -1), until one lump is another one
	next := numbers()
	for _, n := range evens() {
		for _, sum := range []int{7, -1} {
			dough := make([]int, n)
			for place := range n / 2 {
				dough[place] = next(1000)
				if sum == -1 {
					dough[place] = math.MaxInt - next(10)
				}
				dough[n-1-place] = sum - dough[place]
			}
			if !hasPairs(t, dough) {
				t.Error(dough)
			}
			for place := range dough {
				other := slices.Clone(dough)
				other[place] ^= 1
				if ok := hasPairs(t, other); ok != (n == 2) { // two lumps are always a pair
					t.Error(other, ok)
				}
			}
		}
	}
}

func TestFoldsKeepPairs(t *testing.T) { // P7.5: the consequence
	for _, n := range evens() {
		for _, word := range someWords() {
			if dough := foldOf(t, numbered(n), word); !hasPairs(t, dough) {
				t.Error(n, word, dough)
			}
		}
	}
}

// eachDough calls f with each dough of n lumps of these values; the memory is the same for all of them.
func eachDough(n int, values []int, f func(dough []int)) {
	dough := make([]int, n)
	var fill func(place int)
	fill = func(place int) {
		if place == n {
			f(dough)
			return
		}
		for _, v := range values {
			dough[place] = v
			fill(place + 1)
		}
	}
	fill(0)
}

// results returns the results of a call of each function; dough, v and w are all of its arguments that are lists.
func results(dough, v, w []int) []any {
	n, last := len(dough), len(dough)-1
	both := func(l []int, e api.Errno) []any { return []any{slices.Clone(l), e} }
	flag := func(is bool, e api.Errno) []any { return []any{is, e} }
	number := func(i int, e api.Errno) []any { return []any{i, e} }
	word, ok, e := knead.Way(n, last, 0)
	return []any{
		knead.Validate(dough), both(knead.Out(dough)), both(knead.In(dough)), both(knead.UnOut(dough)), both(knead.UnIn(dough)),
		both(knead.Fold(dough, v)), both(knead.Unfold(dough, v)), number(knead.Place(n, v, last)), number(knead.Times(n, 1)),
		both(knead.Rounds(n, 1)), both(knead.Bring(n, last)), []any{slices.Clone(word), ok, e}, flag(knead.IsOdd(n, v)),
		number(knead.Still(n, v)), flag(knead.Pairs(dough)), flag(knead.Same(n, v, w)), both(knead.Power(v, 2)),
	}
}

func TestEqualCallsAndArguments(t *testing.T) { // R5, R11
	for _, n := range evens() {
		for _, dough := range doughs(n) {
			for _, v := range append(shortWords(3), longWords()[:5]...) {
				w := []int{1, 1, 0}
				keep, same := [][]int{slices.Clone(dough), slices.Clone(v)}, slices.Clone(w)
				first := results(dough, v, w)
				if !slices.Equal(dough, keep[0]) || !slices.Equal(v, keep[1]) || !slices.Equal(w, same) {
					t.Error("changed", keep, dough, v, w)
				}
				if second := results(dough, v, w); !reflect.DeepEqual(first, second) {
					t.Error(dough, v, first, second)
				}
			}
		}
	}
}

// lists returns all results that are lists.
func lists(dough, word []int) [][]int {
	n := len(dough)
	out, _ := knead.Out(dough)
	in, _ := knead.In(dough)
	unOut, _ := knead.UnOut(dough)
	unIn, _ := knead.UnIn(dough)
	fold, _ := knead.Fold(dough, word)
	unfold, _ := knead.Unfold(dough, word)
	rounds, _ := knead.Rounds(n, 0)
	bring, _ := knead.Bring(n, n-1)
	way, _, _ := knead.Way(n, n-1, 0)
	power, _ := knead.Power(word, 1)
	return [][]int{out, in, unOut, unIn, fold, unfold, rounds, bring, way, power}
}

func TestResultsAreNewMemory(t *testing.T) { // R5: what is written into a result, up to its capacity, changes nothing else
	for _, n := range evens() {
		for _, word := range [][]int{nil, {}, {0}, {1}, {1, 0, 1}} {
			dough := append(make([]int, 0, n+9), numbered(n)...)
			word := append(make([]int, 0, len(word)+9), word...)
			keep, keepWord := slices.Clone(dough[:n+9]), slices.Clone(word[:cap(word)])
			want := lists(slices.Clone(dough), slices.Clone(word))
			given := lists(dough, word)
			for i, l := range given {
				full := l[:cap(l)]
				for j := range full {
					full[j] = -7
				}
				if !slices.Equal(dough[:n+9], keep) || !slices.Equal(word[:cap(word)], keepWord) {
					t.Error("shared with an argument", n, i)
				}
				if later := given[i+1:]; !slices.EqualFunc(later, want[i+1:], slices.Equal[[]int]) {
					t.Error("shared with a result", n, i)
				}
			}
			if again := lists(dough, word); !slices.EqualFunc(again, want, slices.Equal[[]int]) {
				t.Error("shared with a later call", n)
			}
		}
	}
}
