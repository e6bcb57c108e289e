package knead

import (
	"math/bits"
	"slices"

	"verditer/api"
)

// Place returns the place to which the lump at a place comes by a word.
func Place(lumps int, word []int, place int) (int, api.Errno) {
	if e := validatePlaces(lumps, place); e != api.OK {
		return 0, e
	}
	if e := validateWord(word); e != api.OK {
		return 0, e
	}
	return slices.Index(numbered(lumps).behind(word), place), api.OK
}

// Bring returns the word of the digits of to, which brings the lump at the place 0 there.
func Bring(lumps, to int) ([]int, api.Errno) {
	if e := validatePlaces(lumps, to); e != api.OK {
		return nil, e
	}
	var word []int
	for digit := bits.Len(uint(to)) - 1; digit >= 0; digit-- {
		word = append(word, to>>digit&1)
	}
	return word, api.OK
}

// Way returns the shortest word, the first one of several, that brings the lump at the place from to the place to.
func Way(lumps, from, to int) ([]int, bool, api.Errno) {
	if e := validatePlaces(lumps, from, to); e != api.OK {
		return nil, false, e
	}
	word, ok := waysFrom(lumps, from)[to]
	return word, ok, api.OK
}

// Same reports whether two words do the same with each dough of so many lumps.
func Same(lumps int, v, w []int) (bool, api.Errno) {
	if e := validateLumpsAndWords(lumps, v, w); e != api.OK {
		return false, e
	}
	return slices.Equal(numbered(lumps).behind(v), numbered(lumps).behind(w)), api.OK
}

// Power returns a word so many times, one after another.
func Power(word []int, times int) ([]int, api.Errno) {
	if e := validateWord(word); e != api.OK {
		return nil, e
	}
	if times < 0 || times > api.MaxFolds {
		return nil, api.ErrArg
	}
	if len(word)*times > api.MaxFolds {
		return nil, api.ErrLarge
	}
	return slices.Repeat(word, times), api.OK
}

// waysFrom returns for each place to which the lump at the place from can come the shortest word, the first one of
// several. Such a word comes to no place twice, so it has fewer folds than there are lumps, which is below MaxFolds.
func waysFrom(lumps, from int) map[int][]int {
	folded := [2]batch{numbered(lumps).out(), numbered(lumps).in()}
	ways := map[int][]int{from: nil}
	reached := []int{from}
	for i := 0; i < len(reached); i++ {
		for kind, b := range folded {
			next := slices.Index(b, reached[i])
			if _, ok := ways[next]; !ok {
				ways[next] = slices.Concat(ways[reached[i]], []int{kind})
				reached = append(reached, next)
			}
		}
	}
	return ways
}
