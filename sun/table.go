package sun

import (
	"iter"
	"slices"
)

// table is a table that is valid.
type table [][]int

// has reports whether a number is that of a strip.
func (t table) has(strip int) bool {
	return 0 <= strip && strip < len(t)
}

// beats reports whether the strip a beats the strip b.
func (t table) beats(a, b int) bool {
	return t[a][b] == 1
}

// beaten gives, in ascending order, the strips that a strip beats.
func (t table) beaten(strip int) iter.Seq[int] {
	return func(yield func(int) bool) {
		for other := range t {
			if t.beats(strip, other) && !yield(other) {
				return
			}
		}
	}
}

// others gives, in ascending order, the strips that are not in a list.
func (t table) others(l []int) iter.Seq[int] {
	return func(yield func(int) bool) {
		for strip := range t {
			if !slices.Contains(l, strip) && !yield(strip) {
				return
			}
		}
	}
}

// isKing reports whether a strip beats each other one, or beats one that beats it.
func (t table) isKing(strip int) bool {
	for other := range t.others([]int{strip}) {
		if !t.beats(strip, other) && !t.beatsOver(strip, other) {
			return false
		}
	}
	return true
}

// beatsOver reports whether the strip a beats one that beats the strip b.
func (t table) beatsOver(a, b int) bool {
	for over := range t.beaten(a) {
		if t.beats(over, b) {
			return true
		}
	}
	return false
}

// reached returns the strips that a strip can reach, and itself.
func (t table) reached(strip int) []int {
	reached := []int{strip}
	for i := 0; i < len(reached); i++ {
		for other := range t.beaten(reached[i]) {
			if !slices.Contains(reached, other) {
				reached = append(reached, other)
			}
		}
	}
	return reached
}

// areDifferent reports whether l is a list of different strips.
func (t table) areDifferent(l []int) bool {
	for i, strip := range l {
		if !t.has(strip) || slices.Contains(l[:i], strip) {
			return false
		}
	}
	return true
}

// isOrder reports whether l has each strip once.
func (t table) isOrder(l []int) bool {
	return len(l) == len(t) && t.areDifferent(l)
}

// isPath reports whether each strip of l beats the next one.
func (t table) isPath(l []int) bool {
	for i := 1; i < len(l); i++ {
		if !t.beats(l[i-1], l[i]) {
			return false
		}
	}
	return true
}

// isRound reports whether each strip of l beats the next one, and the last one the first one.
func (t table) isRound(l []int) bool {
	return t.isPath(l) && t.beats(l[len(l)-1], l[0])
}
