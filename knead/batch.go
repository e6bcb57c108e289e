package knead

import "slices"

// batch is a dough that is folded; each fold returns new memory.
type batch []int

// numbered returns the batch in which each lump is the number of its place.
func numbered(lumps int) batch {
	b := make(batch, lumps)
	for place := range b {
		b[place] = place
	}
	return b
}

// halves returns the two halves, which share their memory with the batch; their capacities end where they do, so that
// neither reaches beyond itself.
func (b batch) halves() (first, second batch) {
	middle := len(b) / 2
	return b[:middle:middle], b[middle:len(b):len(b)]
}

// out is the out fold.
func (b batch) out() batch {
	first, second := b.halves()
	return laid(first, second)
}

// in is the in fold.
func (b batch) in() batch {
	first, second := b.halves()
	return laid(second, first)
}

// unOut undoes the out fold.
func (b batch) unOut() batch {
	made := make(batch, len(b))
	first, second := made.halves()
	b.part(first, second)
	return made
}

// unIn undoes the in fold.
func (b batch) unIn() batch {
	made := make(batch, len(b))
	first, second := made.halves()
	b.part(second, first)
	return made
}

// laid returns two halves laid into each other.
func laid(even, odd batch) batch {
	made := make(batch, 2*len(even))
	for i := range even {
		made[2*i], made[2*i+1] = even[i], odd[i]
	}
	return made
}

// part lays the lumps of b at even places and those at odd places into two halves.
func (b batch) part(even, odd batch) {
	for i := range even {
		even[i], odd[i] = b[2*i], b[2*i+1]
	}
}

// fold returns the fold of a kind, ready to be done with b.
func (b batch) fold(kind int) func() batch {
	if kind == 0 {
		return b.out
	}
	return b.in
}

// unfold returns what undoes the fold of a kind, ready to be done with b.
func (b batch) unfold(kind int) func() batch {
	if kind == 0 {
		return b.unOut
	}
	return b.unIn
}

// behind returns the batch that a word makes of b; this is b itself if the word is empty.
func (b batch) behind(word []int) batch {
	for _, kind := range word {
		b = b.fold(kind)()
	}
	return b
}

// before returns the batch of which a word makes b; this is b itself if the word is empty.
func (b batch) before(word []int) batch {
	for _, kind := range slices.Backward(word) {
		b = b.unfold(kind)()
	}
	return b
}
