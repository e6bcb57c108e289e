package weigh_test

import (
	"math"
	"reflect"
	"slices"
	"testing"

	"verditer/api"
	"verditer/weigh"
)

func TestValidate(t *testing.T) { // P6.1
	for _, h := range someHouses() {
		if e := weigh.Validate(h.lots, h.plan); e != api.OK {
			t.Error(h, e)
		}
	}
	for _, h := range badHouses() {
		if e := weigh.Validate(h.lots, h.plan); e != h.want {
			t.Error(h, e)
		}
	}
	for lots := 1; lots <= api.MaxLots; lots++ {
		for weighings := range api.MaxWeighings + 1 {
			if e := weigh.Validate(lots, make([]api.Weighing, weighings)); e != api.OK {
				t.Error(lots, weighings, e)
			}
		}
	}
}

func TestValidateByTheDefinition(t *testing.T) { // P6.1: all weighings of two lots with sides of at most 3 numbers
	sets := [][]int{{}, {0}, {1}, {0, 1}}
	isSet := func(l []int) bool {
		return slices.ContainsFunc(sets, func(set []int) bool { return slices.Equal(set, l) })
	}
	for _, left := range listsOf(3, -1, 2) {
		for _, right := range listsOf(3, -1, 2) {
			want := api.OK
			switch {
			case !isSet(left) || !isSet(right):
				want = api.ErrArg
			case slices.Contains(left, 0) && slices.Contains(right, 0), slices.Contains(left, 1) && slices.Contains(right, 1):
				want = api.ErrTwice
			case len(left) != len(right):
				want = api.ErrFit
			}
			if e := weigh.Validate(2, []api.Weighing{{}, {Left: left, Right: right}}); e != want {
				t.Error(left, right, e, want)
			}
		}
	}
}

// call is a call of a function: whether all results but the error are zero, and the error.
type call func(lots int, plan []api.Weighing) (bool, api.Errno)

// badCalls has a call of each function that takes a plan; other arguments are wrong for any plan.
func badCalls() map[string]call {
	none := api.Case{Lot: -1}
	plans := func(f func(lots int, plan []api.Weighing, k int) ([]api.Weighing, api.Errno)) call {
		return func(lots int, plan []api.Weighing) (bool, api.Errno) {
			p, e := f(lots, plan, -1)
			return len(p) == 0, e
		}
	}
	return map[string]call{
		"Answers": func(lots int, plan []api.Weighing) (bool, api.Errno) {
			l, e := weigh.Answers(lots, plan, none)
			return len(l) == 0, e
		},
		"Cases": func(lots int, plan []api.Weighing) (bool, api.Errno) {
			l, ok, e := weigh.Cases(lots, plan, []int{2})
			return len(l) == 0 && !ok, e
		},
		"Marks": func(lots int, plan []api.Weighing) (bool, api.Errno) {
			l, e := weigh.Marks(lots, plan)
			return len(l) == 0, e
		},
		"Tells": func(lots int, plan []api.Weighing) (bool, api.Errno) {
			ok, e := weigh.Tells(lots, plan)
			return !ok, e
		},
		"CheckBad": func(lots int, plan []api.Weighing) (bool, api.Errno) {
			return true, weigh.CheckBad(lots, plan, none, none)
		},
		"Bad": func(lots int, plan []api.Weighing) (bool, api.Errno) {
			c, d, ok, e := weigh.Bad(lots, plan)
			return c == api.Case{} && d == api.Case{} && !ok, e
		},
		"Possible": func(lots int, plan []api.Weighing) (bool, api.Errno) {
			n, e := weigh.Possible(lots, plan)
			return n == 0, e
		},
		"Mirror": plans(weigh.Mirror),
		"Rename": func(lots int, plan []api.Weighing) (bool, api.Errno) {
			p, e := weigh.Rename(lots, plan, []int{-1})
			return len(p) == 0, e
		},
		"Without": plans(weigh.Without),
	}
}

func TestErrorsOfValidateComeFirst(t *testing.T) { // P6.1, R2, R3
	for _, h := range badHouses() {
		for name, call := range badCalls() {
			if zero, e := call(h.lots, h.plan); !zero || e != h.want {
				t.Error(name, h, zero, e)
			}
		}
	}
}

func TestCasesThatAreNone(t *testing.T) { // P6.1: ErrNone before ErrArg
	var some []api.Case
	for _, lot := range []int{math.MinInt, -1, 0, 1, 2, 3, math.MaxInt} {
		for _, way := range []int{math.MinInt, -2, -1, 0, 1, 2, math.MaxInt} {
			some = append(some, api.Case{Lot: lot, Way: way})
		}
	}
	of := func(cases ...api.Case) api.Errno {
		if slices.ContainsFunc(cases, func(c api.Case) bool { return c.Lot < 0 || c.Lot > 2 }) {
			return api.ErrNone
		}
		if slices.ContainsFunc(cases, func(c api.Case) bool { return c.Way != 1 && c.Way != -1 }) {
			return api.ErrArg
		}
		return api.OK
	}
	for _, c := range some {
		if l, e := weigh.Answers(3, one().plan, c); e != of(c) || e != api.OK && len(l) != 0 {
			t.Error(c, l, e)
		}
		for _, d := range some {
			want := of(c, d)
			if want == api.OK && !isProof(one().plan, c, d) {
				want = api.ErrProof
			}
			if e := weigh.CheckBad(3, one().plan, c, d); e != want {
				t.Error(c, d, e, want)
			}
		}
	}
}

func TestAnswersThatAreNone(t *testing.T) { // P6.1: ErrArg
	for _, h := range []house{{3, nil}, one(), three(), twelve()} {
		lists := append(listsOf(4, -1, 1), []int{2}, []int{-2}, []int{0, 2}, []int{-2, 0}, []int{1, 0, 2}, []int{math.MinInt}, []int{math.MaxInt, 0}, make([]int, 100))
		for _, l := range lists {
			if len(l) == len(h.plan) && (len(l) == 0 || slices.Min(l) >= -1 && slices.Max(l) <= 1) {
				continue
			}
			if cases, ok, e := weigh.Cases(h.lots, h.plan, l); len(cases) != 0 || ok || e != api.ErrArg {
				t.Error(h, l, cases, ok, e)
			}
		}
	}
}

func TestExamples(t *testing.T) { // P6.2, P6.3, P6.4
	if l := marksOf(t, three()); !areSameLists(l, [][]int{{1, 0}, {-1, 1}, {0, -1}}) || !tellsOf(t, three()) {
		t.Error(l)
	}
	if l := marksOf(t, one()); !areSameLists(l, [][]int{{1}, {-1}, {0}}) || tellsOf(t, one()) {
		t.Error(l)
	}
	last := api.Case{Lot: 2, Way: 1}
	if e := weigh.CheckBad(3, one().plan, last, last); e != api.OK {
		t.Error(e)
	}
	if l, e := weigh.Answers(3, three().plan, api.Case{Lot: 1, Way: -1}); !slices.Equal(l, []int{1, -1}) || e != api.OK {
		t.Error(l, e)
	}
	l, ok, e := weigh.Cases(3, one().plan, []int{0})
	if !slices.Equal(l, []api.Case{{Lot: 2, Way: -1}, {Lot: 2, Way: 1}}) || !ok || e != api.OK {
		t.Error(l, ok, e)
	}
	l, ok, e = weigh.Cases(3, one().plan, []int{1})
	if !slices.Equal(l, []api.Case{{Lot: 0, Way: 1}, {Lot: 1, Way: -1}}) || ok || e != api.OK {
		t.Error(l, ok, e)
	}
	for _, c := range []struct {
		h    house
		want int
	}{{one(), 3}, {three(), 7}, {nine(), 19}, {twelve(), 25}, {thirteen(), 25}, {house{13, nil}, 1}, {house{1, make([]api.Weighing, 3)}, 1}} {
		if n := possibleOf(t, c.h); n != c.want {
			t.Error(c, n)
		}
	}
}

func TestAnswers(t *testing.T) { // P6.2
	for _, h := range someHouses() {
		marks := marksOf(t, h)
		for _, c := range casesOf(h.lots) {
			l, e := weigh.Answers(h.lots, h.plan, c)
			if !slices.Equal(l, answersOf(h.plan, c)) || e != api.OK {
				t.Fatal(h, c, l, e)
			}
			byMark := marks[c.Lot]
			if c.Way == -1 {
				byMark = opposite(byMark)
			}
			if !slices.Equal(l, byMark) {
				t.Error(h, c, l, byMark)
			}
		}
	}
}

func TestCasesAndPossible(t *testing.T) { // P6.2, S6
	for _, h := range someHouses() {
		different := 1
		eachList(len(h.plan), -1, 1, func(l []int) {
			var want []api.Case
			for _, c := range casesOf(h.lots) {
				if slices.Equal(answersOf(h.plan, c), l) {
					want = append(want, c)
				}
			}
			if len(want) > 0 && !isBlank(l) {
				different++
			}
			cases, ok, e := weigh.Cases(h.lots, h.plan, l)
			if !slices.Equal(cases, want) || ok != isBlank(l) || e != api.OK {
				t.Fatal(h, l, cases, ok, e)
			}
		})
		if n := possibleOf(t, h); n != different {
			t.Error(h, n, different)
		}
	}
}

// results returns what the functions return for a plan and arguments that fit it.
func results(h house) []any {
	var out []any
	keep := func(l ...any) { out = append(out, l...) }
	one := func(l any, e api.Errno) { keep(l, e) }
	lots, plan, to := h.lots, h.plan, backwards(h.lots)
	one(weigh.Marks(lots, plan))
	one(weigh.Tells(lots, plan))
	one(weigh.Possible(lots, plan))
	one(weigh.Rename(lots, plan, to))
	for k := range plan {
		one(weigh.Mirror(lots, plan, k))
		one(weigh.Without(lots, plan, k))
	}
	for _, c := range casesOf(lots) {
		l, e := weigh.Answers(lots, plan, c)
		cases, ok, f := weigh.Cases(lots, plan, l)
		keep(l, e, cases, ok, f, weigh.CheckBad(lots, plan, c, casesOf(lots)[0]))
	}
	c, d, ok, e := weigh.Bad(lots, plan)
	keep(c, d, ok, e)
	marks, _ := weigh.Marks(lots, plan)
	one(weigh.FromMarks(marks))
	p, ok, e := weigh.Make(lots, len(plan))
	keep(p, ok, e)
	return out
}

// backwards returns the lots in descending order.
func backwards(lots int) []int {
	var to []int
	for lot := range lots {
		to = append([]int{lot}, to...)
	}
	return to
}

func TestEqualCallsAndArguments(t *testing.T) { // R5, R11: also where a result is free
	for _, h := range append(largeHouses(), housesOf(3, 2)...) {
		before := house{h.lots, copyOf(h.plan)}
		first := results(h)
		if !reflect.DeepEqual(first, results(before)) {
			t.Error(h)
		}
		if !areSame(before.plan, h.plan) {
			t.Error("an argument is changed", before, h)
		}
	}
	marks, to, answers := [][]int{{1, 0}, {-1, 1}, {0, -1}}, []int{2, 0, 1}, []int{-1, 1}
	weigh.FromMarks(marks)
	weigh.Rename(3, three().plan, to)
	weigh.Cases(3, three().plan, answers)
	if !areSameLists(marks, [][]int{{1, 0}, {-1, 1}, {0, -1}}) || !slices.Equal(to, []int{2, 0, 1}) || !slices.Equal(answers, []int{-1, 1}) {
		t.Error("an argument is changed", marks, to, answers)
	}
}

func TestResultsAreNewMemory(t *testing.T) { // R5
	h := twelve()
	marks := marksOf(t, h)
	lists := func() map[string][][]int {
		out := map[string][][]int{}
		add := func(name string, plan []api.Weighing) {
			for _, w := range plan {
				out[name] = append(out[name], w.Left, w.Right)
			}
		}
		p, _ := weigh.Mirror(h.lots, h.plan, 1)
		add("Mirror", p)
		p, _ = weigh.Without(h.lots, h.plan, 1)
		add("Without", p)
		p, _ = weigh.Rename(h.lots, h.plan, []int{0, 1, 2, 3, 4, 5, 6, 7, 8, 9, 10, 11})
		add("Rename", p)
		p, _ = weigh.FromMarks(marks)
		add("FromMarks", p)
		p, _, _ = weigh.Make(12, 3)
		add("Make", p)
		out["Marks"], _ = weigh.Marks(h.lots, h.plan)
		return out
	}
	want := lists()
	for name := range want {
		for i := range want[name] {
			spoiled := lists()[name]
			l := spoiled[i][:cap(spoiled[i])]
			for j := range l {
				l[j] = 99
			}
			for j, other := range spoiled {
				if j != i && !slices.Equal(other, want[name][j]) {
					t.Error("two lists share memory", name, i, j)
				}
			}
		}
	}
	if !reflect.DeepEqual(want, lists()) || !areSame(h.plan, twelve().plan) || !areSameLists(marks, marksOf(t, twelve())) {
		t.Error("a result shares memory with an argument", h.plan, marks)
	}
}
