package strike_test

import (
	"math"
	"slices"
	"testing"

	"verditer/api"
	"verditer/strike"
)

// side has the compounds of one side of a strike.
type side = [][]int

// water is the first example of the chapter.
func water() api.Strike { return api.Strike{In: side{{2, 0}, {0, 2}}, Out: side{{2, 1}}} }

// apart is the second one: it has no balance.
func apart() api.Strike { return api.Strike{In: side{{1, 0}}, Out: side{{0, 1}}} }

// gas has three elements.
func gas() api.Strike {
	return api.Strike{In: side{{3, 8, 0}, {0, 0, 2}}, Out: side{{1, 0, 2}, {0, 2, 1}}}
}

// crossed has times that balance, but only with different signs.
func crossed() api.Strike {
	return api.Strike{In: side{{1, 0}, {1, 1}}, Out: side{{0, 1}}}
}

// idle has times that balance, but only with 0 for a compound.
func idle() api.Strike {
	return api.Strike{In: side{{1, 0}, {0, 1}}, Out: side{{1, 0}}}
}

// wide has one element and many balances.
func wide() api.Strike { return api.Strike{In: side{{1}, {1}}, Out: side{{1}, {2}}} }

// doubled has an element that is the double of the other one.
func doubled() api.Strike { return api.Strike{In: side{{1, 2}}, Out: side{{2, 4}}} }

// heavy has a simple balance of large numbers.
func heavy() api.Strike {
	return api.Strike{In: side{{8, 1, 9, 8}, {0, 0, 9, 8}, {8, 8, 0, 0}}, Out: side{{9, 8, 8, 9}, {9, 0, 9, 0}}}
}

// full has as many compounds, elements and atoms as a strike may have.
func full() api.Strike {
	return api.Strike{In: side{{9, 0, 0, 0}, {0, 9, 0, 0}, {0, 0, 9, 9}}, Out: side{{9, 9, 9, 9}, {0, 0, 9, 9}, {1, 2, 3, 3}}}
}

// named has these strikes.
func named() []api.Strike {
	return []api.Strike{water(), apart(), gas(), crossed(), idle(), wide(), doubled(), heavy(), full()}
}

// badStrikes has strikes that are none.
func badStrikes() []api.Strike {
	four := side{{1}, {1}, {1}, {1}}
	return []api.Strike{
		{},
		{In: side{}, Out: side{}},
		{In: side{{1}}},
		{Out: side{{1}}},
		{In: four, Out: side{{1}}},
		{In: side{{1}}, Out: four},
		{In: side{nil}, Out: side{nil}},
		{In: side{{}, {1}}, Out: side{{1}}},
		{In: side{{1}, {}}, Out: side{{1}}},
		{In: side{{1}}, Out: side{nil}},
		{In: side{{1, 1, 1, 1, 1}}, Out: side{{1, 1, 1, 1, 1}}},
		{In: side{{1, 1}}, Out: side{{1}}},
		{In: side{{1}}, Out: side{{1, 1}}},
		{In: side{{1}, {1, 0}}, Out: side{{1}}},
		{In: side{{1}}, Out: side{{1}, {1, 0}}},
		{In: side{{10}}, Out: side{{1}}},
		{In: side{{1}}, Out: side{{10}}},
		{In: side{{-1}}, Out: side{{1}}},
		{In: side{{1}}, Out: side{{-1}}},
		{In: side{{2, -1}}, Out: side{{1, 1}}},
		{In: side{{math.MaxInt}}, Out: side{{1}}},
		{In: side{{1}}, Out: side{{math.MinInt}}},
		{In: side{{0}}, Out: side{{1}}},
		{In: side{{1, 0}}, Out: side{{0, 0}}},
		{In: side{{1, 0}, {0, 0}}, Out: side{{1, 0}}},
	}
}

// smallStrikes has all strikes of two elements with 0 to 2 atoms and at most two compounds on a side.
func smallStrikes() []api.Strike {
	var compounds, sides []side
	for n := 1; n < 9; n++ {
		compounds = append(compounds, side{{n / 3, n % 3}})
	}
	sides = slices.Clone(compounds)
	for _, a := range compounds {
		for _, b := range compounds {
			sides = append(sides, side{a[0], b[0]})
		}
	}
	var strikes []api.Strike
	for _, in := range sides {
		for _, out := range sides {
			strikes = append(strikes, api.Strike{In: in, Out: out})
		}
	}
	return strikes
}

// largeStrikes has strikes of all sizes, the same ones in each run; a part of them is made so as to have a balance.
func largeStrikes() []api.Strike {
	var strikes []api.Strike
	next := numbers()
	for elements := 1; elements <= api.MaxElements; elements++ {
		for in := 1; in <= api.MaxSide; in++ {
			for out := 1; out <= api.MaxSide; out++ {
				for range 12 {
					most := []int{1, 2, 4, api.MaxAtoms}[next(4)]
					s := api.Strike{In: sideOf(next, in, elements, most), Out: sideOf(next, out, elements, most)}
					strikes = append(strikes, s)
				}
			}
		}
		for range 40 {
			strikes = append(strikes, exchanged(next, elements))
		}
	}
	return strikes
}

// someStrikes has strikes of all kinds.
func someStrikes() []api.Strike {
	return slices.Concat(named(), smallStrikes(), largeStrikes())
}

// sideOf returns so many compounds with 0 to most atoms, about half of which are 0.
func sideOf(next func(n int) int, compounds, elements, most int) side {
	var out side
	for range compounds {
		c := make([]int, elements)
		for i := range c {
			c[i] = next(most+1) * next(2)
		}
		c[next(elements)] = 1 + next(most)
		out = append(out, c)
	}
	return out
}

// exchanged returns a strike in which the compounds of In exchange some of their parts.
func exchanged(next func(n int) int, elements int) api.Strike {
	p := sideOf(next, 6, elements, 4)
	in := side{added(p[0], p[1]), added(p[2], p[3]), added(p[4], p[5])}
	out := side{added(p[1], p[2]), added(p[3], p[4]), added(p[5], p[0])}
	for i := range in {
		in[i], out[i] = lowered(in[i], next), lowered(out[i], next)
	}
	return api.Strike{In: in, Out: out}
}

// added returns the compound with the atoms of both.
func added(c, d []int) []int {
	out := slices.Clone(c)
	for i := range out {
		out[i] += d[i]
	}
	return out
}

// lowered returns the compound, or where that is a compound, at times, half of it.
func lowered(c []int, next func(n int) int) []int {
	if next(2) == 0 || slices.ContainsFunc(c, func(n int) bool { return n%2 == 1 }) {
		return c
	}
	out := slices.Clone(c)
	for i := range out {
		out[i] /= 2
	}
	return out
}

// numbers returns a source of numbers below n, the same ones in each run.
func numbers() func(n int) int {
	seed := 1
	return func(n int) int {
		seed = (seed*1103515245 + 12345) % (1 << 31)
		return (seed >> 8) % n
	}
}

// compoundsOf returns the compounds of In, and then those of Out.
func compoundsOf(s api.Strike) side {
	return slices.Concat(s.In, s.Out)
}

// sumOf returns the sum of atoms and times over some compounds, for an element.
func sumOf(compounds side, times []int, element int) int {
	sum := 0
	for i, c := range compounds {
		sum += c[element] * times[i]
	}
	return sum
}

// isEven reports whether, for an element, the sum over In is that over Out.
func isEven(s api.Strike, times []int, element int) bool {
	return sumOf(s.In, times[:len(s.In)], element) == sumOf(s.Out, times[len(s.In):], element)
}

// doBalance reports whether times balance, as the document words it.
func doBalance(s api.Strike, times []int) bool {
	for element := range s.In[0] {
		if !isEven(s, times, element) {
			return false
		}
	}
	return true
}

// isBalance reports whether times are a balance with numbers that are at most MaxCoef.
func isBalance(s api.Strike, times []int) bool {
	return len(times) == len(compoundsOf(s)) && slices.Min(times) > 0 && slices.Max(times) <= api.MaxCoef && doBalance(s, times)
}

// weightOf returns the weight of a compound.
func weightOf(c, weights []int) int {
	sum := 0
	for i, atoms := range c {
		sum += atoms * weights[i]
	}
	return sum
}

// doForbid reports whether weights forbid a strike, as the document words it.
func doForbid(s api.Strike, weights []int) bool {
	other := false
	for _, c := range s.In {
		if weightOf(c, weights) < 0 {
			return false
		}
		other = other || weightOf(c, weights) != 0
	}
	for _, c := range s.Out {
		if weightOf(c, weights) > 0 {
			return false
		}
		other = other || weightOf(c, weights) != 0
	}
	return other
}

// rows returns, for each element, the atoms of the compounds, of Out with the opposite sign.
func rows(s api.Strike) [][]int {
	out := make([][]int, len(s.In[0]))
	for element := range out {
		for _, c := range s.In {
			out[element] = append(out[element], c[element])
		}
		for _, c := range s.Out {
			out[element] = append(out[element], -c[element])
		}
	}
	return out
}

// rankOf returns the size of the greatest square of rows and columns whose determinant is not 0.
func rankOf(m [][]int) int {
	if len(m) == 0 {
		return 0
	}
	rank := 0
	for r := range 1 << len(m) {
		for c := range 1 << len(m[0]) {
			square := chosen(m, r)
			for i := range square {
				square[i] = chosen(square[i], c)
			}
			if n := len(square); n > rank && n == len(square[0]) && determinant(square) != 0 {
				rank = n
			}
		}
	}
	return rank
}

// chosen returns the items of l whose bits are set.
func chosen[T any](l []T, bits int) []T {
	var out []T
	for i, x := range l {
		if bits>>i&1 == 1 {
			out = append(out, x)
		}
	}
	return out
}

// determinant returns the determinant of a square.
func determinant(m [][]int) int {
	if len(m) == 0 {
		return 1
	}
	sum, sign := 0, 1
	for i := range m {
		rest := slices.Delete(slices.Clone(m), i, i+1)
		for j := range rest {
			rest[j] = rest[j][1:]
		}
		sum += sign * m[i][0] * determinant(rest)
		sign = -sign
	}
	return sum
}

// isSame reports whether two strikes are equal.
func isSame(s, t api.Strike) bool {
	return slices.EqualFunc(s.In, t.In, slices.Equal) && slices.EqualFunc(s.Out, t.Out, slices.Equal)
}

// isNothing reports whether a strike is the zero value.
func isNothing(s api.Strike) bool { return len(s.In) == 0 && len(s.Out) == 0 }

// copyOf returns a strike in new memory.
func copyOf(s api.Strike) api.Strike {
	var out api.Strike
	for _, c := range s.In {
		out.In = append(out.In, slices.Clone(c))
	}
	for _, c := range s.Out {
		out.Out = append(out.Out, slices.Clone(c))
	}
	return out
}

func spaceOf(t *testing.T, s api.Strike) int {
	t.Helper()
	n, e := strike.Space(s)
	if e != api.OK {
		t.Fatal(s, e)
	}
	return n
}

func canBalance(t *testing.T, s api.Strike) bool {
	t.Helper()
	ok, e := strike.CanBalance(s)
	if e != api.OK {
		t.Fatal(s, e)
	}
	return ok
}
