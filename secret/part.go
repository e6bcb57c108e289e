package secret

import "verditer/api"

// part is what one knows of a curve: what a partner has of it, or its secret.
type part interface {
	isPart()
}

// shared is a part that a partner has.
type shared api.Part

// told is the secret itself.
type told int

func (shared) isPart() {}
func (told) isPart()   {}

// point returns where a part tells what a curve is, and what it is there.
func point(p part) (x, y int) {
	switch p := p.(type) {
	case shared:
		x, y = p.X, p.Y
	case told:
		y = int(p) // the secret is the curve at 0
	}
	return x, y
}

// sharesOf returns the parts that partners have.
func sharesOf(l []api.Part) []part {
	var parts []part
	for _, p := range l {
		parts = append(parts, shared(p))
	}
	return parts
}
