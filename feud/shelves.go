package feud

import (
	"slices"

	"verditer/api"
)

// CheckShelves checks that l is a shelving with so many shelves.
func CheckShelves(s api.Shop, shelves int, l []int) api.Errno {
	if e := validateShelves(s, shelves); e != api.OK {
		return e
	}
	if len(l) != s.Paints {
		return api.ErrArg
	}
	for _, shelf := range l {
		if shelf < 0 || shelf >= shelves {
			return api.ErrArg
		}
	}
	for _, f := range s.Feuds {
		if l[f.A] == l[f.B] {
			return api.ErrRule
		}
	}
	return api.OK
}

// Fewest returns the smallest number of shelves for which there is a shelving.
func Fewest(s api.Shop) (int, api.Errno) {
	if e := Validate(s); e != api.OK {
		return 0, e
	}
	fewest := s.Paints // a shelf for each paint is always enough
	for _, l := range shopOf(s).shelvings() {
		fewest = min(fewest, inUse(l))
	}
	return fewest, api.OK
}

// Shelve returns a shelving with so many shelves, and whether there is one.
func Shelve(s api.Shop, shelves int) ([]int, bool, api.Errno) {
	if e := validateShelves(s, shelves); e != api.OK {
		return nil, false, e
	}
	for _, l := range shopOf(s).shelvings() {
		if inUse(l) <= shelves {
			return l, true, api.OK
		}
	}
	return nil, false, api.OK
}

// Line returns the shelving in which the paints, in an order, get the smallest number that they can have.
func Line(s api.Shop, order []int) ([]int, api.Errno) {
	if e := Validate(s); e != api.OK {
		return nil, e
	}
	if len(order) != s.Paints || !areDifferent(s, order) {
		return nil, api.ErrArg
	}
	in := shopOf(s)
	l := slices.Repeat([]int{-1}, s.Paints) // -1 is no shelf yet
	for _, paint := range order {
		var taken []int
		for _, foe := range in.foes(paint) {
			taken = append(taken, l[foe])
		}
		l[paint] = smallestBut(taken)
	}
	return l, api.OK
}

// validateShelves is Validate, and ErrArg if there cannot be so many shelves.
func validateShelves(s api.Shop, shelves int) api.Errno {
	if e := Validate(s); e != api.OK {
		return e
	}
	if shelves < 1 || shelves > api.MaxShelves {
		return api.ErrArg
	}
	return api.OK
}

// smallestBut returns the smallest number from 0 on that is not taken.
func smallestBut(taken []int) int {
	n := 0
	for slices.Contains(taken, n) {
		n++
	}
	return n
}

// shelvings returns, in ascending order, the shelvings in which each paint, one after another, stands on a shelf that
// is in use or on the next one. Any other shelving is one of these with other numbers for its shelves.
func (in shop) shelvings() [][]int {
	all := [][]int{nil}
	for paint := range in.paints {
		var longer [][]int
		for _, l := range all {
		search:
			for shelf := range inUse(l) + 1 {
				for other, on := range l {
					if on == shelf && in.has(other, paint) {
						continue search
					}
				}
				longer = append(longer, append(slices.Clone(l), shelf))
			}
		}
		all = longer
	}
	return all
}

// inUse returns how many shelves one of shelvings uses.
func inUse(l []int) int {
	shelves := 0
	for _, shelf := range l {
		shelves = max(shelves, shelf+1)
	}
	return shelves
}
