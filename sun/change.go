package sun

import (
	"slices"

	"verditer/api"
)

// Back returns the table in which each strip beats those that beat it.
func Back(t [][]int) ([][]int, api.Errno) {
	if e := Validate(t); e != api.OK {
		return nil, e
	}
	out := empty(len(t))
	for a := range t {
		for b := range t {
			out[b][a] = t[a][b]
		}
	}
	return out, api.OK
}

// Switch returns the table in which just the comparison of a and b has the other answer.
func Switch(t [][]int, a, b int) ([][]int, api.Errno) {
	if e := validateStrips(t, a, b); e != api.OK {
		return nil, e
	}
	if a == b {
		return nil, api.ErrArg
	}
	var out [][]int
	for _, answers := range t {
		out = append(out, slices.Clone(answers))
	}
	out[a][b], out[b][a] = t[b][a], t[a][b]
	return out, api.OK
}

// Rename returns the table in which each strip i has the number to[i].
func Rename(t [][]int, to []int) ([][]int, api.Errno) {
	if e := validateOrder(t, to); e != api.OK {
		return nil, e
	}
	out := empty(len(t))
	for a := range t {
		for b := range t {
			out[to[a]][to[b]] = t[a][b]
		}
	}
	return out, api.OK
}

// Add returns the table with one more strip, which beats those with a 1 in beats.
func Add(t [][]int, beats []int) ([][]int, api.Errno) {
	if e := Validate(t); e != api.OK {
		return nil, e
	}
	if !areAnswers(beats, len(t)) {
		return nil, api.ErrArg
	}
	if !isCount(len(t) + 1) {
		return nil, api.ErrLarge
	}
	out := empty(len(t) + 1)
	for strip, answers := range t {
		copy(out[strip], answers)
		out[strip][len(t)] = 1 - beats[strip]
	}
	copy(out[len(t)], beats)
	return out, api.OK
}

// empty returns lists of so many strips in which none beats another one.
func empty(strips int) [][]int {
	var out [][]int
	for range strips {
		out = append(out, make([]int, strips))
	}
	return out
}
