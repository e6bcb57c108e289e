package weigh_test

import (
	"cmp"
	"math"
	"slices"
	"testing"

	"verditer/api"
	"verditer/weigh"
)

// house is a number of lots and a plan for them.
type house struct {
	lots int
	plan []api.Weighing
}

// on returns the weighing of one lot against another one.
func on(left, right int) api.Weighing {
	return api.Weighing{Left: []int{left}, Right: []int{right}}
}

// three is the first example of the chapter.
func three() house { return house{3, []api.Weighing{on(0, 1), on(1, 2)}} }

// one is the second example: the lot 2 is not weighed.
func one() house { return house{3, []api.Weighing{on(0, 1)}} }

// twelve has a plan that tells for as many lots as three weighings can.
func twelve() house {
	return house{12, []api.Weighing{
		{Left: []int{0, 3, 5, 10}, Right: []int{2, 6, 9, 11}},
		{Left: []int{1, 3, 4, 11}, Right: []int{0, 7, 9, 10}},
		{Left: []int{2, 4, 5, 9}, Right: []int{1, 8, 10, 11}},
	}}
}

// nine has a plan that tells, too.
func nine() house {
	return house{9, []api.Weighing{
		{Left: []int{0, 3, 7}, Right: []int{2, 6, 8}},
		{Left: []int{1, 4, 8}, Right: []int{0, 6, 7}},
		{Left: []int{2, 5, 6}, Right: []int{1, 7, 8}},
	}}
}

// thirteen has the plan of twelve, and one lot more.
func thirteen() house { return house{13, twelve().plan} }

// weighingsOf returns all weighings of so many lots.
func weighingsOf(lots int) []api.Weighing {
	var all []api.Weighing
	eachList(lots, -1, 1, func(l []int) {
		var w api.Weighing
		for lot, side := range l {
			if side == 1 {
				w.Left = append(w.Left, lot)
			}
			if side == -1 {
				w.Right = append(w.Right, lot)
			}
		}
		if len(w.Left) == len(w.Right) {
			all = append(all, w)
		}
	})
	return all
}

// housesOf returns all plans of so many weighings for so many lots.
func housesOf(lots, weighings int) []house {
	all := []house{{lots: lots}}
	for range weighings {
		var longer []house
		for _, h := range all {
			for _, w := range weighingsOf(lots) {
				longer = append(longer, house{lots, append(slices.Clone(h.plan), w)})
			}
		}
		all = longer
	}
	return all
}

// smallHouses has all plans for up to 4 lots, those of two weighings at most for 5, and of one at most for 6.
func smallHouses() []house {
	var all []house
	for lots, most := range []int{1: 3, 2: 3, 3: 3, 4: 3, 5: 2, 6: 1} {
		if lots > 0 {
			for weighings := range most + 1 {
				all = append(all, housesOf(lots, weighings)...)
			}
		}
	}
	return all
}

// largeHouses has some plans for 5 to 13 lots: plans that tell, such in which two lots exchange their sides in one of
// the weighings, and others.
func largeHouses() []house {
	next := numbers()
	all := []house{nine(), twelve(), thirteen()}
	for _, h := range all {
		for range 30 {
			all = append(all, exchanged(h, next(len(h.plan)), next(h.lots), next(h.lots)))
		}
	}
	for lots := 5; lots <= api.MaxLots; lots++ {
		for i := range 12 {
			all = append(all, anyHouse(lots, 2+i%2, next))
		}
	}
	return all
}

// exchanged returns a plan in which the lots a and b exchange their sides in the weighing k.
func exchanged(h house, k, a, b int) house {
	exchange := func(l []int) []int {
		var out []int
		for _, lot := range l {
			switch lot {
			case a:
				lot = b
			case b:
				lot = a
			}
			out = append(out, lot)
		}
		slices.Sort(out)
		return out
	}
	plan := copyOf(h.plan)
	plan[k] = api.Weighing{Left: exchange(plan[k].Left), Right: exchange(plan[k].Right)}
	return house{h.lots, plan}
}

// anyHouse returns a plan that comes from next.
func anyHouse(lots, weighings int, next func(n int) int) house {
	h := house{lots: lots}
	for range weighings {
		order := shuffled(lots, next)
		size := next(lots/2 + 1)
		left, right := order[:size], order[size:2*size]
		slices.Sort(left)
		slices.Sort(right)
		h.plan = append(h.plan, api.Weighing{Left: left, Right: right})
	}
	return h
}

// shuffled returns the lots in an order that comes from next.
func shuffled(lots int, next func(n int) int) []int {
	var order []int
	for lot := range lots {
		order = slices.Insert(order, next(lot+1), lot)
	}
	return order
}

// someHouses has small and large ones.
func someHouses() []house {
	return append(smallHouses(), largeHouses()...)
}

// numbers returns a source of numbers below n, the same ones in each run.
func numbers() func(n int) int {
	seed := 1
	return func(n int) int {
		seed = (seed*1103515245 + 12345) % (1 << 31)
		return (seed >> 8) % n
	}
}

// badHouse is not a plan for so many lots: with the error of Validate.
type badHouse struct {
	house
	want api.Errno
}

// badHouses has plans that are none; where two errors apply, the first one counts.
func badHouses() []badHouse {
	none, twice, uneven := on(0, 3), on(1, 1), api.Weighing{Left: []int{0}}
	sides := func(left, right []int) []api.Weighing { return []api.Weighing{{Left: left, Right: right}} }
	return []badHouse{
		{house{0, nil}, api.ErrArg}, {house{-1, nil}, api.ErrArg}, {house{14, nil}, api.ErrArg},
		{house{math.MinInt, nil}, api.ErrArg}, {house{math.MaxInt, three().plan}, api.ErrArg},
		{house{0, make([]api.Weighing, 4)}, api.ErrArg}, {house{14, make([]api.Weighing, 1000)}, api.ErrArg},
		{house{3, make([]api.Weighing, 4)}, api.ErrLarge}, {house{13, make([]api.Weighing, 1000)}, api.ErrLarge},
		{house{3, []api.Weighing{none, twice, uneven, none}}, api.ErrLarge},
		{house{1, sides([]int{0}, []int{1})}, api.ErrArg},
		{house{3, sides([]int{3}, []int{0})}, api.ErrArg}, {house{3, sides([]int{0}, []int{3})}, api.ErrArg},
		{house{3, sides([]int{-1}, []int{0})}, api.ErrArg}, {house{3, sides([]int{0}, []int{-1})}, api.ErrArg},
		{house{13, sides([]int{12}, []int{13})}, api.ErrArg},
		{house{4, sides([]int{1, 0}, []int{2, 3})}, api.ErrArg}, {house{4, sides([]int{0, 1}, []int{3, 2})}, api.ErrArg},
		{house{4, sides([]int{0, 0}, []int{2, 3})}, api.ErrArg}, {house{4, sides([]int{0, 1}, []int{2, 2})}, api.ErrArg},
		{house{3, sides([]int{math.MinInt}, []int{math.MaxInt})}, api.ErrArg}, {house{3, sides(nil, make([]int, 100))}, api.ErrArg},
		{house{3, sides([]int{0, 1}, []int{0, 3})}, api.ErrArg}, {house{3, sides([]int{0, 1, 3}, []int{0})}, api.ErrArg},
		{house{3, sides([]int{0}, []int{0})}, api.ErrTwice}, {house{3, sides([]int{0, 1}, []int{1, 2})}, api.ErrTwice},
		{house{3, sides([]int{0, 1, 2}, []int{2})}, api.ErrTwice}, {house{3, sides([]int{0}, []int{0, 1})}, api.ErrTwice},
		{house{3, sides([]int{0}, nil)}, api.ErrFit}, {house{3, sides(nil, []int{0})}, api.ErrFit}, {house{3, sides([]int{0, 1}, []int{2})}, api.ErrFit},
		{house{3, []api.Weighing{none, twice, uneven}}, api.ErrArg}, {house{3, []api.Weighing{twice, none, uneven}}, api.ErrTwice},
		{house{3, []api.Weighing{uneven, none, twice}}, api.ErrFit}, {house{3, []api.Weighing{on(0, 1), uneven, none}}, api.ErrFit},
		{house{3, []api.Weighing{{}, twice, uneven}}, api.ErrTwice}, {house{3, []api.Weighing{{}, on(2, 1), none}}, api.ErrArg},
	}
}

// casesOf returns the cases, in ascending order.
func casesOf(lots int) []api.Case {
	var all []api.Case
	for i := range 2 * lots {
		all = append(all, api.Case{Lot: i / 2, Way: i%2*2 - 1})
	}
	return all
}

// answersOf returns the answers to a case, by weighing: each lot weighs 5, the odd one 4 or 6.
func answersOf(plan []api.Weighing, c api.Case) []int {
	weight := func(l []int) int {
		if slices.Contains(l, c.Lot) {
			return 5*len(l) + c.Way
		}
		return 5 * len(l)
	}
	var answers []int
	for _, w := range plan {
		answers = append(answers, cmp.Compare(weight(w.Left), weight(w.Right)))
	}
	return answers
}

// isBlank reports whether all numbers are 0.
func isBlank(l []int) bool {
	return !slices.ContainsFunc(l, func(n int) bool { return n != 0 })
}

// isProof reports whether two cases show that a plan does not tell.
func isProof(plan []api.Weighing, c, d api.Case) bool {
	if c == d {
		return isBlank(answersOf(plan, c))
	}
	return slices.Equal(answersOf(plan, c), answersOf(plan, d))
}

// tells reports whether the plan tells, by the definition.
func (h house) tells() bool {
	for i, c := range casesOf(h.lots) {
		for _, d := range casesOf(h.lots)[:i+1] {
			if isProof(h.plan, c, d) {
				return false
			}
		}
	}
	return true
}

// opposite returns the numbers with the opposite signs.
func opposite(l []int) []int {
	var out []int
	for _, n := range l {
		out = append(out, -n)
	}
	return out
}

// eachList calls f with each list of n numbers from least to most; the memory is the same for all of them.
func eachList(n, least, most int, f func(l []int)) {
	l := slices.Repeat([]int{least}, n)
	for {
		f(l)
		i := 0
		for i < n && l[i] == most {
			l[i] = least
			i++
		}
		if i == n {
			return
		}
		l[i]++
	}
}

// listsOf returns all lists of at most n numbers from least to most.
func listsOf(n, least, most int) [][]int {
	var lists [][]int
	for length := range n + 1 {
		eachList(length, least, most, func(l []int) { lists = append(lists, slices.Clone(l)) })
	}
	return lists
}

// areSame reports whether two plans are equal; a nil slice is an empty one.
func areSame(p, q []api.Weighing) bool {
	return slices.EqualFunc(p, q, func(v, w api.Weighing) bool {
		return slices.Equal(v.Left, w.Left) && slices.Equal(v.Right, w.Right)
	})
}

// areSameLists reports whether two lists of lists are equal; a nil slice is an empty one.
func areSameLists(l, r [][]int) bool {
	return slices.EqualFunc(l, r, slices.Equal[[]int])
}

// copyOf returns a plan in new memory.
func copyOf(plan []api.Weighing) []api.Weighing {
	var out []api.Weighing
	for _, w := range plan {
		out = append(out, api.Weighing{Left: slices.Clone(w.Left), Right: slices.Clone(w.Right)})
	}
	return out
}

func tellsOf(t *testing.T, h house) bool {
	t.Helper()
	ok, e := weigh.Tells(h.lots, h.plan)
	if e != api.OK {
		t.Fatal(h, e)
	}
	return ok
}

func possibleOf(t *testing.T, h house) int {
	t.Helper()
	n, e := weigh.Possible(h.lots, h.plan)
	if e != api.OK {
		t.Fatal(h, e)
	}
	return n
}

func marksOf(t *testing.T, h house) [][]int {
	t.Helper()
	l, e := weigh.Marks(h.lots, h.plan)
	if e != api.OK || len(l) != h.lots {
		t.Fatal(h, l, e)
	}
	return l
}
