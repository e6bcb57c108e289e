package strike

import (
	"slices"

	"verditer/api"
)

// line has a number for each compound, or for each element; behind these it has zeros.
// Two lines are orthogonal if the sum of the products of their numbers is 0.
type line [2 * api.MaxSide]int

// compoundLines returns for each compound a line of its atoms, of Out with the opposite sign:
// then times balance exactly if the sum of the lines and their times is 0.
func compoundLines(s api.Strike) []line {
	lines := make([]line, len(compoundsOf(s)))
	for i, c := range compoundsOf(s) {
		for element, atoms := range c {
			if i >= len(s.In) {
				atoms = -atoms
			}
			lines[i][element] = atoms
		}
	}
	return lines
}

// elementLines returns for each element a line of the same numbers.
func elementLines(s api.Strike) []line {
	lines := make([]line, elementsOf(s))
	for i, c := range compoundLines(s) {
		for element := range lines {
			lines[element][i] = c[element]
		}
	}
	return lines
}

// unit returns the line with 1 in a column; only a line with 0 in that column is orthogonal to it.
func unit(column int) line {
	var l line
	l[column] = 1
	return l
}

// exchange exchanges the rows i and j.
func exchange[T any](rows []T, i, j int) {
	rows[i], rows[j] = rows[j], rows[i]
}

// reduced returns lines to which the same lines are orthogonal as to these, and some columns: in each of these columns
// one line, the first one in the first column and so on, has a number and no other one has. All further lines are 0.
func reduced(lines []line) ([]line, []int) {
	lines = slices.Clone(lines)
	var columns []int
	for column := range len(line{}) {
		row := len(columns)
		below := slices.IndexFunc(lines[row:], func(l line) bool { return l[column] != 0 })
		if below < 0 {
			continue
		}
		exchange(lines, row, row+below)
		for i, l := range lines {
			if i != row {
				lines[i] = l.cleared(lines[row], column)
			}
		}
		columns = append(columns, column)
	}
	return lines, columns
}

// rank returns how many of the lines are not sums of multiples of others.
func rank(lines []line) int {
	_, columns := reduced(lines)
	return len(columns)
}

// cleared returns a multiple of l with so much of the line by added that a column is 0.
func (l line) cleared(by line, column int) line {
	var out line
	for i := range out {
		out[i] = l[i]*by[column] - by[i]*l[column]
	}
	return out.lowest()
}

// lowest returns the line divided by the greatest divisor that its numbers have in common: so they stay small.
func (l line) lowest() line {
	common := 0
	for _, n := range l {
		common = divisor(common, n)
	}
	if common == 0 {
		return l
	}
	for i := range l {
		l[i] /= common
	}
	return l
}

// opposite returns the line times -1.
func (l line) opposite() line {
	for i := range l {
		l[i] = -l[i]
	}
	return l
}

// divisor returns the greatest common divisor of two numbers, and 0 of 0 and 0.
func divisor(a, b int) int {
	for b != 0 {
		a, b = b, a%b
	}
	return max(a, -a)
}

// sole returns the line of a width, in lowest terms, of which all lines that are orthogonal to these are multiples,
// and whether there is such a one.
func sole(lines []line, width int) (line, bool) {
	lines, columns := reduced(lines)
	if len(columns) != width-1 {
		return line{}, false
	}
	free := 0
	for slices.Contains(columns, free) {
		free++
	}
	out := unit(free)
	for row, column := range columns {
		own := lines[row][column]
		out[free] *= own / divisor(out[free], own)
	}
	for row, column := range columns {
		own, other := lines[row][column], lines[row][free]
		out[column] = -other * (out[free] / own)
	}
	return out.lowest(), true
}

// directions returns, for each choice of some of the others, the sole line that is orthogonal to these and to all fixed
// lines, where there is one, and its opposite. Its numbers are determinants of atoms, or divisors of such ones; of
// 4 elements with 0 to 9 atoms these are at most 3 * 9 * 9 * 9 * 9, which is 19683.
func directions(fixed, others []line, width int) []line {
	var all []line
	for chosen := range 1 << len(others) {
		lines := slices.Clone(fixed)
		for i, l := range others {
			if chosen>>i&1 == 1 {
				lines = append(lines, l)
			}
		}
		if l, ok := sole(lines, width); ok {
			all = append(all, l, l.opposite())
		}
	}
	return all
}
