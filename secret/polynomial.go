package secret

import (
	"slices"

	"verditer/api"
)

// polynomial is a curve that one calculates with; what is made of it is new memory.
type polynomial []int

// at returns what p is at x.
func (p polynomial) at(x int) int {
	y := 0
	for _, n := range slices.Backward(p) {
		y = modulo(y*x + n)
	}
	return y
}

// part returns the part of p for x.
func (p polynomial) part(x int) api.Part {
	return api.Part{X: x, Y: p.at(x)}
}

// plus returns the sum of p and q.
func (p polynomial) plus(q polynomial) polynomial {
	sum := make(polynomial, max(len(p), len(q)))
	copy(sum, p)
	for i, n := range q {
		sum[i] = modulo(sum[i] + n)
	}
	return sum
}

// times returns the product of p and q, neither of which is empty.
func (p polynomial) times(q polynomial) polynomial {
	product := make(polynomial, len(p)+len(q)-1)
	for i, m := range p {
		for j, n := range q {
			product[i+j] = modulo(product[i+j] + m*n)
		}
	}
	return product
}

// joined puts polynomials together, one after another, to the first one.
func joined(join func(p, q polynomial) polynomial, first polynomial, rest []polynomial) polynomial {
	for _, p := range rest {
		first = join(first, p)
	}
	return first
}

// through returns the polynomial with as many numbers as there are parts that meets all of them: the sum of those that
// meet one each.
func through(parts []part) polynomial {
	var terms []polynomial
	for which := range parts {
		terms = append(terms, term(parts, which))
	}
	return joined(polynomial.plus, nil, terms)
}

// term returns the polynomial with as many numbers as there are parts that meets one of them and is 0 at the others.
func term(parts []part, which int) polynomial {
	var zeros []polynomial
	for i, p := range parts {
		if x, _ := point(p); i != which {
			zeros = append(zeros, polynomial{-x, 1})
		}
	}
	zero := joined(polynomial.times, polynomial{1}, zeros)
	x, y := point(parts[which])
	return zero.times(polynomial{y * inverse(zero.at(x))})
}

// modulo returns n modulo Prime.
func modulo(n int) int {
	return (n%api.Prime + api.Prime) % api.Prime
}

// inverse returns the number whose product with a, which is not 0, is 1: a to the power of Prime - 1 is 1, as Prime is a
// prime.
func inverse(a int) int {
	power := 1
	for range api.Prime - 2 {
		power = modulo(power * a)
	}
	return power
}
