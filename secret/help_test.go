package secret_test

import (
	"math"
	"slices"
	"testing"

	"verditer/api"
	"verditer/secret"
)

// notNumbers returns some that are none.
func notNumbers() []int {
	return []int{math.MinInt, -api.Prime - 1, -api.Prime, -1, api.Prime, api.Prime + 1, 2*api.Prime + 1, 1 << 32, math.MaxInt}
}

// notXs returns some numbers that are no X of a part.
func notXs() []int { return append(notNumbers(), 0) }

// notNeeds returns some numbers that are no need.
func notNeeds() []int {
	return []int{math.MinInt, -1, 0, api.MaxNeed + 1, api.MaxNeed + 2, math.MaxInt}
}

// numbers returns a source of numbers below n, the same ones in each run.
func numbers() func(n int) int {
	seed := 1
	return func(n int) int {
		seed = (seed*1103515245 + 12345) % (1 << 31)
		return (seed >> 8) % n
	}
}

// curvesOf returns some curves of so many numbers, such with zeros at either end among them.
func curvesOf(need int) [][]int {
	next := numbers()
	all := [][]int{make([]int, need), slices.Repeat([]int{1}, need), slices.Repeat([]int{api.Prime - 1}, need)}
	for _, values := range [][]int{{0, 1}, {0, 5, api.Prime - 1}} {
		all = append(all, mixed(next, need, values))
	}
	for range 12 {
		curve := mixed(next, need, nil)
		ends := slices.Clone(curve)
		ends[0], ends[need-1] = 0, 0
		all = append(all, curve, ends)
	}
	return all
}

// curves returns some curves of all lengths.
func curves() [][]int {
	var all [][]int
	for need := 1; need <= api.MaxNeed; need++ {
		all = append(all, curvesOf(need)...)
	}
	return all
}

// mixed returns so many of the values, or of all numbers if there are none.
func mixed(next func(n int) int, count int, values []int) []int {
	var l []int
	for range count {
		n := next(api.Prime)
		if len(values) > 0 {
			n = values[n%len(values)]
		}
		l = append(l, n)
	}
	return l
}

// someXs returns so many different xs: some in a row, some from both ends and some in disorder.
func someXs(count int) [][]int {
	next := numbers()
	var row, ends []int
	for i := range count {
		row = append(row, i+1)
		ends = append(ends, api.Prime-1-i)
		if i%2 == 1 {
			ends[i] = i
		}
	}
	all := [][]int{row, ends}
	for range 4 {
		var xs []int
		for len(xs) < count {
			if x := 1 + next(api.Prime-1); !slices.Contains(xs, x) {
				xs = append(xs, x)
			}
		}
		all = append(all, xs)
	}
	return all
}

// allNumbers returns them.
func allNumbers() []int {
	var all []int
	for n := range api.Prime {
		all = append(all, n)
	}
	return all
}

// valueAt is a curve at x by the description. The sums of what is here a number each are far below the largest int.
func valueAt(curve []int, x int) int {
	sum, power := 0, 1
	for _, n := range curve {
		sum += n * power
		power *= x
	}
	return sum % api.Prime
}

// partsOf returns the parts of a curve with these Xs.
func partsOf(curve, xs []int) []api.Part {
	var l []api.Part
	for _, x := range xs {
		l = append(l, api.Part{X: x, Y: valueAt(curve, x)})
	}
	return l
}

// partsWith returns parts with these Xs and Ys.
func partsWith(xs, ys []int) []api.Part {
	var l []api.Part
	for i, x := range xs {
		l = append(l, api.Part{X: x, Y: ys[i]})
	}
	return l
}

// xsOf returns the Xs of parts.
func xsOf(l []api.Part) []int {
	var xs []int
	for _, p := range l {
		xs = append(xs, p.X)
	}
	return xs
}

// quotient returns the number whose product with b is a.
func quotient(a, b int) int {
	for n := range api.Prime {
		if (n*b-a)%api.Prime == 0 {
			return n
		}
	}
	return -1
}

// fits reports whether parts lie on a curve with so many numbers, by Newton: exactly then all divided differences over
// more parts than that are 0.
func fits(l []api.Part, need int) bool {
	var column []int
	for _, p := range l {
		column = append(column, p.Y)
	}
	for order := 1; order < len(l); order++ {
		for i := range len(l) - order {
			column[i] = quotient(column[i+1]-column[i], l[i+order].X-l[i].X)
		}
		column = column[:len(l)-order]
		if order == need && slices.ContainsFunc(column, func(n int) bool { return n != 0 }) {
			return false
		}
	}
	return true
}

// lies reports whether each of the parts is on the curve.
func lies(curve []int, l []api.Part) bool {
	return !slices.ContainsFunc(l, func(p api.Part) bool { return valueAt(curve, p.X) != p.Y })
}

// without returns the parts without the one at a place.
func without(l []api.Part, place int) []api.Part {
	var rest []api.Part
	for i, p := range l {
		if i != place {
			rest = append(rest, p)
		}
	}
	return rest
}

// falsified returns the parts with something added to the Y of one.
func falsified(l []api.Part, place, by int) []api.Part {
	out := slices.Clone(l)
	out[place].Y = (out[place].Y + by) % api.Prime
	return out
}

// someParts returns so many parts of several kinds, with what they have in common with no curve or with one.
func someParts(count int) [][]api.Part {
	next := numbers()
	var all [][]api.Part
	for i, xs := range someXs(count) {
		all = append(all, partsWith(xs, mixed(next, count, nil)), partsWith(xs, mixed(next, count, []int{0, 1})))
		all = append(all, partsOf(curvesOf(1 + i%api.MaxNeed)[5+i], xs))
	}
	return all
}

// subsets returns all choices of so many of the parts, in their order.
func subsets(l []api.Part, count int) [][]api.Part {
	if count == 0 {
		return [][]api.Part{nil}
	}
	var all [][]api.Part
	for i, p := range l {
		for _, rest := range subsets(l[i+1:], count-1) {
			all = append(all, append([]api.Part{p}, rest...))
		}
	}
	return all
}

// badParts is a list that is no parts: with its error.
type badParts struct {
	l    []api.Part
	want api.Errno
}

// badLists has lists that are no parts; where several errors apply, the first one counts.
func badLists() []badParts {
	bad := []badParts{
		{make([]api.Part, api.MaxParts+1), api.ErrLarge},
		{make([]api.Part, 1000), api.ErrLarge},
		{partsOf([]int{1, 2}, someXs(api.MaxParts + 1)[0]), api.ErrLarge},
		{slices.Repeat([]api.Part{{X: 1, Y: 1}}, api.MaxParts+1), api.ErrLarge},
		{[]api.Part{{X: 1}, {X: 1}, {X: 2, Y: api.Prime}}, api.ErrArg},
		{[]api.Part{{X: 1}, {X: 1}, {X: 0}}, api.ErrArg},
		{[]api.Part{{X: api.Prime}, {X: api.Prime}}, api.ErrArg},
		{[]api.Part{{X: 7, Y: 1}, {X: 7, Y: 1}}, api.ErrTwice},
		{[]api.Part{{X: 7, Y: 1}, {X: 7, Y: 2}}, api.ErrTwice},
		{[]api.Part{{X: 7, Y: 1}, {X: 8, Y: 2}, {X: 9, Y: 2}, {X: 7, Y: 3}}, api.ErrTwice},
	}
	for _, count := range []int{1, 3, api.MaxParts} {
		for place := range count {
			for _, n := range notNumbers() {
				l := someParts(count)[3]
				l[place].Y = n
				bad = append(bad, badParts{l, api.ErrArg})
			}
			for _, x := range notXs() {
				l := someParts(count)[3]
				l[place].X = x
				bad = append(bad, badParts{l, api.ErrArg})
			}
			for other := range place {
				l := someParts(count)[3]
				l[place].X = l[other].X
				bad = append(bad, badParts{l, api.ErrTwice})
			}
		}
	}
	return bad
}

// badCurve is no curve: with its error.
type badCurve struct {
	curve []int
	want  api.Errno
}

// badCurves has some; where both errors apply, the first one counts.
func badCurves() []badCurve {
	bad := []badCurve{
		{nil, api.ErrLarge},
		{[]int{}, api.ErrLarge},
		{make([]int, api.MaxNeed+1), api.ErrLarge},
		{make([]int, 1000), api.ErrLarge},
		{slices.Repeat([]int{-1}, api.MaxNeed+1), api.ErrLarge},
	}
	for need := 1; need <= api.MaxNeed; need++ {
		for place := range need {
			for _, n := range notNumbers() {
				curve := slices.Repeat([]int{3}, need)
				curve[place] = n
				bad = append(bad, badCurve{curve, api.ErrArg})
			}
		}
	}
	return bad
}

func curveOf(t *testing.T, l []api.Part) []int {
	t.Helper()
	curve, e := secret.Curve(l)
	if e != api.OK {
		t.Fatal(l, e)
	}
	return curve
}

func secretOf(t *testing.T, l []api.Part) int {
	t.Helper()
	n, e := secret.Secret(l)
	if e != api.OK {
		t.Fatal(l, e)
	}
	return n
}

func shareOf(t *testing.T, curve []int, parts int) []api.Part {
	t.Helper()
	l, e := secret.Share(curve, parts)
	if e != api.OK {
		t.Fatal(curve, parts, e)
	}
	return l
}
