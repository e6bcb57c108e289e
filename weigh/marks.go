package weigh

import (
	"slices"

	"verditer/api"
)

// mark is the mark of a lot, or the answers of weighings. What is behind the last weighing is 0, so that two marks of
// the same plan are equal exactly if the arrays are.
type mark [api.MaxWeighings]int

// Marks returns the mark of each lot.
func Marks(lots int, plan []api.Weighing) ([][]int, api.Errno) {
	if e := Validate(lots, plan); e != api.OK {
		return nil, e
	}
	var lists [][]int
	for _, m := range marksOf(lots, plan) {
		lists = append(lists, m.list(len(plan)))
	}
	return lists, api.OK
}

// FromMarks returns the plan with given marks.
func FromMarks(marks [][]int) ([]api.Weighing, api.Errno) {
	isLarge := func(l []int) bool { return !areWeighings(len(l)) }
	if !areLots(len(marks)) || slices.ContainsFunc(marks, isLarge) {
		return nil, api.ErrLarge
	}
	weighings := len(marks[0])
	isNone := func(l []int) bool { return len(l) != weighings || !areSides(l) }
	if slices.ContainsFunc(marks, isNone) {
		return nil, api.ErrArg
	}
	var all []mark
	for _, l := range marks {
		all = append(all, markOf(l))
	}
	if sum(all) != blank() {
		return nil, api.ErrFit
	}
	return planOf(all, weighings), api.OK
}

// blank returns the mark of a lot that is never weighed.
func blank() mark {
	return mark{}
}

// areSides reports whether each number of l is one of a mark: 1, -1 or 0.
func areSides(l []int) bool {
	for _, n := range l {
		if n < -1 || n > 1 {
			return false
		}
	}
	return true
}

// markOf returns a list of at most MaxWeighings numbers as a mark.
func markOf(l []int) mark {
	var m mark
	copy(m[:], l)
	return m
}

// list returns the numbers for so many weighings.
func (m mark) list(weighings int) []int {
	return slices.Clone(m[:weighings])
}

// times returns the mark with each number times a factor.
func (m mark) times(factor int) mark {
	for k := range m {
		m[k] *= factor
	}
	return m
}

// sum returns the sums of the numbers for each weighing.
func sum(marks []mark) mark {
	var total mark
	for _, m := range marks {
		for k, n := range m {
			total[k] += n
		}
	}
	return total
}

// marksOf returns the mark of each lot in a valid plan.
func marksOf(lots int, plan []api.Weighing) []mark {
	marks := make([]mark, lots)
	for k, w := range plan {
		for _, lot := range w.Left {
			marks[lot][k] = 1
		}
		for _, lot := range w.Right {
			marks[lot][k] = -1
		}
	}
	return marks
}

// planOf returns the plan of so many weighings with given marks.
func planOf(marks []mark, weighings int) []api.Weighing {
	plan := make([]api.Weighing, weighings)
	for lot, m := range marks {
		for k := range plan {
			switch m[k] {
			case 1:
				plan[k].Left = append(plan[k].Left, lot)
			case -1:
				plan[k].Right = append(plan[k].Right, lot)
			}
		}
	}
	return plan
}
