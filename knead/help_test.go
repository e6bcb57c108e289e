package knead_test

import (
	"math"
	"slices"
	"testing"

	"verditer/api"
	"verditer/knead"
)

// evens returns all numbers of lumps that a dough can have.
func evens() []int {
	var all []int
	for n := 2; n <= api.MaxLumps; n += 2 {
		all = append(all, n)
	}
	return all
}

// notEvens returns some numbers of lumps that no dough has.
func notEvens() []int {
	return []int{math.MinInt, -2, -1, 0, 1, 3, 5, 31, 33, 34, 64, math.MaxInt - 1, math.MaxInt}
}

// notPlaces returns some numbers that are none of n places.
func notPlaces(n int) []int {
	return []int{math.MinInt, -n, -1, n, n + 1, 2 * n, math.MaxInt}
}

// notKinds returns some numbers that are no kinds of folds.
func notKinds() []int {
	return []int{math.MinInt, -1, 2, 3, math.MaxInt}
}

// numbered returns the dough in which each lump is its place.
func numbered(n int) []int {
	var dough []int
	for place := range n {
		dough = append(dough, place)
	}
	return dough
}

// doughs returns some doughs of n lumps, such with equal lumps and with large ones among them.
func doughs(n int) [][]int {
	next := numbers()
	all := [][]int{numbered(n), make([]int, n)}
	for _, values := range [][]int{{0, 1}, {-3, 5, 7, 7}, {math.MinInt, -1, math.MaxInt, 0, 4}} {
		var dough []int
		for range n {
			dough = append(dough, values[next(len(values))])
		}
		all = append(all, dough)
	}
	return all
}

// numbers returns a source of numbers below n, the same ones in each run.
func numbers() func(n int) int {
	seed := 1
	return func(n int) int {
		seed = (seed*1103515245 + 12345) % (1 << 31)
		return (seed >> 8) % n
	}
}

// wordsOf returns all words of so many folds, in ascending order.
func wordsOf(folds int) [][]int {
	words := [][]int{nil}
	for range folds {
		var longer [][]int
		for _, w := range words {
			longer = append(longer, slices.Concat(w, []int{0}), slices.Concat(w, []int{1}))
		}
		words = longer
	}
	return words
}

// shortWords returns all words of at most so many folds: the shorter ones first, and those of one length in ascending
// order.
func shortWords(folds int) [][]int {
	var words [][]int
	for length := range folds + 1 {
		words = append(words, wordsOf(length)...)
	}
	return words
}

// longWords returns some words of more folds, up to MaxFolds.
func longWords() [][]int {
	next := numbers()
	words := [][]int{make([]int, api.MaxFolds), slices.Repeat([]int{1}, api.MaxFolds), slices.Repeat([]int{0, 1}, api.MaxFolds/2)}
	for length := 6; length <= api.MaxFolds; length++ {
		var word []int
		for range length {
			word = append(word, next(2))
		}
		words = append(words, word)
	}
	return words
}

// someWords has short and long ones.
func someWords() [][]int {
	return append(shortWords(5), longWords()...)
}

// badWord is no word: with its error.
type badWord struct {
	word []int
	want api.Errno
}

// badWords has words that are none; where two errors apply, the first one counts.
func badWords() []badWord {
	large := make([]int, api.MaxFolds+1)
	both := slices.Repeat([]int{2}, api.MaxFolds+1)
	last := make([]int, api.MaxFolds)
	last[api.MaxFolds-1] = 2
	bad := []badWord{{large, api.ErrLarge}, {both, api.ErrLarge}, {make([]int, 1000), api.ErrLarge}, {last, api.ErrArg}}
	for _, kind := range notKinds() {
		bad = append(bad, badWord{[]int{kind}, api.ErrArg}, badWord{[]int{0, 1, kind}, api.ErrArg}, badWord{[]int{kind, 1, 0}, api.ErrArg})
	}
	return bad
}

// anyWords has bad ones and two that are words.
func anyWords() []badWord {
	return append(badWords(), badWord{nil, api.OK}, badWord{[]int{1, 0, 1}, api.OK})
}

// badDoughs returns lists that are no doughs.
func badDoughs() [][]int {
	all := [][]int{nil, {}, make([]int, 1000)}
	for _, n := range []int{1, 3, 5, 31, 33, 34} {
		all = append(all, numbered(n))
	}
	return all
}

// folded returns a dough folded once, by the description: the halves give their first lump in turn.
func folded(dough []int, kind int) []int {
	middle := len(dough) / 2
	halves := [2][]int{dough[:middle], dough[middle:]}
	var made []int
	for turn := range dough {
		half := (turn + kind) % 2
		made = append(made, halves[half][0])
		halves[half] = halves[half][1:]
	}
	return made
}

// behind returns a dough behind a word, by the description.
func behind(dough, word []int) []int {
	for _, kind := range word {
		dough = folded(dough, kind)
	}
	return dough
}

// placeBehind returns the place to which a lump comes by a word, by the rule that the chapter gives.
func placeBehind(n int, word []int, place int) int {
	for _, kind := range word {
		switch {
		case kind == 1:
			place = (2*place + 1) % (n + 1)
		case place < n-1:
			place = 2 * place % (n - 1)
		}
	}
	return place
}

func foldOf(t *testing.T, dough, word []int) []int {
	t.Helper()
	l, e := knead.Fold(dough, word)
	if e != api.OK {
		t.Fatal(dough, word, e)
	}
	return l
}

func placeOf(t *testing.T, n int, word []int, place int) int {
	t.Helper()
	p, e := knead.Place(n, word, place)
	if e != api.OK {
		t.Fatal(n, word, place, e)
	}
	return p
}

func timesOf(t *testing.T, n, kind int) int {
	t.Helper()
	times, e := knead.Times(n, kind)
	if e != api.OK {
		t.Fatal(n, kind, e)
	}
	return times
}

func roundsOf(t *testing.T, n, kind int) []int {
	t.Helper()
	l, e := knead.Rounds(n, kind)
	if e != api.OK {
		t.Fatal(n, kind, e)
	}
	return l
}

func isOdd(t *testing.T, n int, word []int) bool {
	t.Helper()
	odd, e := knead.IsOdd(n, word)
	if e != api.OK {
		t.Fatal(n, word, e)
	}
	return odd
}

func hasPairs(t *testing.T, dough []int) bool {
	t.Helper()
	ok, e := knead.Pairs(dough)
	if e != api.OK {
		t.Fatal(dough, e)
	}
	return ok
}
