package sun

import (
	"slices"

	"verditer/api"
)

// Upsets returns how many pairs there are of which the strip that comes later in an order beats the other one.
func Upsets(t [][]int, order []int) (int, api.Errno) {
	if e := validateOrder(t, order); e != api.OK {
		return 0, e
	}
	upsets := 0
	for i, strip := range order {
		upsets += table(t).winsOver(strip, order[:i])
	}
	return upsets, api.OK
}

// Fewest returns the smallest number of upsets of an order.
func Fewest(t [][]int) (int, api.Errno) {
	if e := Validate(t); e != api.OK {
		return 0, e
	}
	_, fewest := table(t).ranking()
	return fewest, api.OK
}

// Ranking returns the first order, in ascending order, that has the fewest upsets.
func Ranking(t [][]int) ([]int, api.Errno) {
	if e := Validate(t); e != api.OK {
		return nil, e
	}
	order, _ := table(t).ranking()
	return order, api.OK
}

// winsOver returns how many strips of a list a strip beats.
func (t table) winsOver(strip int, l []int) int {
	wins := 0
	for _, other := range l {
		if t.beats(strip, other) {
			wins++
		}
	}
	return wins
}

// ranking returns the first order, in ascending order, that has the fewest upsets, and their number. It meets the
// orders in ascending order and leaves out those that begin with too many upsets to be better than the best one.
func (t table) ranking() ([]int, int) {
	var best []int
	fewest := len(t) * len(t) // more than there are pairs
	var place func(order []int, upsets int)
	place = func(order []int, upsets int) {
		if upsets >= fewest {
			return
		}
		if len(order) == len(t) {
			best, fewest = order, upsets
			return
		}
		for strip := range t.others(order) {
			place(append(slices.Clone(order), strip), upsets+t.winsOver(strip, order))
		}
	}
	place(nil, 0)
	return best, fewest
}
