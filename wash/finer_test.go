package wash_test

import (
	"math"
	"slices"
	"testing"

	"verditer/api"
	"verditer/wash"
)

func TestIsFiner(t *testing.T) { // P1.5
	l, m := lot(1, 3, 4, 1), lot(1, 1, 4, 3)
	for i, c := range []struct {
		l, m []api.Grain
		want bool
	}{
		{l, m, true}, {m, l, false}, {l, l, true}, {nil, nil, true},
		{lot(2, 2), lot(1, 1, 3, 1), false}, {lot(1, 1, 3, 1), lot(2, 2), false},
		{lot(1, 1), lot(20, 1), true}, {lot(20, 1), lot(1, 1), false},
		{lot(1, 1, 3, 1), lot(2, 1, 3, 1), true},
	} {
		if is, e := wash.IsFiner(c.l, c.m); is != c.want || e != api.OK {
			t.Error(i, is, e)
		}
	}
}

func TestGrind(t *testing.T) { // P1.5
	for i, c := range []struct {
		l     []api.Grain
		moves []api.Move
		want  []api.Grain
	}{
		{lot(1, 1, 4, 3), nil, lot(1, 1, 4, 3)},
		{lot(1, 1, 4, 3), []api.Move{move(4, 3, 1)}, lot(1, 1, 3, 1, 4, 2)},
		{lot(1, 1, 4, 3), []api.Move{move(4, 1, 3)}, lot(1, 4)},
		{lot(20, 100), []api.Move{move(20, 1, 100)}, lot(1, 100)},
		{lot(5, 2), []api.Move{move(5, 3, 2), move(3, 2, 1)}, lot(2, 1, 3, 1)},
		// On the way there may be more than a lot may have.
		{lot(1, 99, 2, 9, 3, 1), []api.Move{move(3, 2, 1), move(2, 1, 1)}, lot(1, 100, 2, 9)},
		{lot(2, 100, 3, 9), []api.Move{move(3, 2, 9), move(2, 1, 50)}, lot(1, 50, 2, 59)},
		{lot(2, 1, 3, 1, 4, 1, 5, 1, 6, 1, 7, 2), []api.Move{move(7, 1, 1), move(7, 6, 1)}, lot(1, 1, 2, 1, 3, 1, 4, 1, 5, 1, 6, 2)},
		{nil, nil, nil},
	} {
		if l, e := wash.Grind(c.l, c.moves); !slices.Equal(l, c.want) || e != api.OK {
			t.Error(i, l, e)
		}
	}
}

func TestGrindRefuses(t *testing.T) { // P1.5
	many := make([]api.Move, api.MaxMoves+1)
	for i := range many {
		many[i] = move(4, 3, 1)
	}
	for i, c := range []struct {
		l     []api.Grain
		moves []api.Move
		want  api.Errno
	}{
		{lot(4, 50), many, api.ErrLarge},
		{lot(4, 50), many[1:], api.OK},
		{lot(4, 50), make([]api.Move, api.MaxMoves+1), api.ErrLarge},
		{lot(4, 3), []api.Move{move(3, 4, 1)}, api.ErrArg},
		{lot(4, 3), []api.Move{move(4, 4, 1)}, api.ErrArg},
		{lot(4, 3), []api.Move{move(4, 0, 1)}, api.ErrArg},
		{lot(4, 3), []api.Move{move(21, 4, 1)}, api.ErrArg},
		{lot(4, 3), []api.Move{move(4, 1, 0)}, api.ErrArg},
		{lot(4, 3), []api.Move{move(4, 1, -1)}, api.ErrArg},
		{lot(4, 3), []api.Move{move(4, 1, 101)}, api.ErrArg},
		{lot(4, 3), []api.Move{move(math.MaxInt, math.MinInt, math.MaxInt)}, api.ErrArg},
		{lot(4, 3), []api.Move{move(3, 1, 1), move(4, 4, 1)}, api.ErrArg}, // ErrArg of any move before ErrShort
		{lot(4, 3), []api.Move{move(4, 1, 4)}, api.ErrShort},
		{lot(4, 3), []api.Move{move(3, 1, 1)}, api.ErrShort},
		{lot(4, 3), []api.Move{move(4, 1, 2), move(4, 1, 2)}, api.ErrShort},
		{lot(4, 3), []api.Move{move(3, 2, 1), move(4, 3, 1)}, api.ErrShort}, // one after another
		{nil, []api.Move{move(4, 1, 1)}, api.ErrShort},
		{lot(1, 99, 2, 9), []api.Move{move(2, 1, 2)}, api.ErrArg},
		{lot(1, 99, 2, 9), []api.Move{move(2, 1, 2), move(2, 1, 9)}, api.ErrShort},
		{lot(2, 1, 3, 1, 4, 1, 5, 1, 6, 1, 7, 2), []api.Move{move(7, 1, 1)}, api.ErrLarge},
		{lot(2, 100, 3, 2, 4, 1, 5, 1, 6, 1, 7, 2), []api.Move{move(3, 2, 1), move(7, 1, 1)}, api.ErrLarge},
	} {
		if l, e := wash.Grind(c.l, c.moves); e != c.want || e != api.OK && len(l) != 0 {
			t.Error(i, l, e, c.want)
		}
	}
}

func TestCheckFiner(t *testing.T) { // P1.5
	l, m := lot(1, 3, 4, 1), lot(1, 1, 4, 3)
	for i, c := range []struct {
		l, m  []api.Grain
		moves []api.Move
		want  api.Errno
	}{
		{l, m, []api.Move{move(4, 1, 2)}, api.OK},
		{l, m, []api.Move{move(4, 2, 2), move(2, 1, 2)}, api.OK},
		{l, l, nil, api.OK},
		{nil, nil, nil, api.OK},
		{l, m, nil, api.ErrProof},
		{l, m, []api.Move{move(4, 1, 1)}, api.ErrProof},
		{l, m, []api.Move{move(4, 1, 3)}, api.ErrProof},
		{m, l, nil, api.ErrProof},
		{l, m, []api.Move{move(4, 1, 4)}, api.ErrShort},
		{l, m, []api.Move{move(1, 4, 1)}, api.ErrArg},
		{l, m, make([]api.Move, api.MaxMoves+1), api.ErrLarge},
		{l, lot(1, 1), make([]api.Move, api.MaxMoves+1), api.ErrFit},
		{lot(1, 98, 2, 10), lot(1, 99, 2, 9), []api.Move{move(2, 1, 2)}, api.ErrArg},
	} {
		if e := wash.CheckFiner(c.l, c.m, c.moves); e != c.want {
			t.Error(i, e, c.want)
		}
	}
}

func TestFinerExactlyIfGrindingLeadsToIt(t *testing.T) { // S1, P1.5
	for mass := range 6 {
		lots := lotsOf(mass, 4)
		for _, m := range lots {
			ground := groundFrom(t, m)
			for _, l := range lots {
				want := slices.ContainsFunc(ground, func(x []api.Grain) bool { return slices.Equal(x, l) })
				checkFiner(t, l, m, want)
			}
		}
	}
}

// groundFrom returns all lots to which moves of the mass 1 lead from m.
func groundFrom(t *testing.T, m []api.Grain) [][]api.Grain {
	t.Helper()
	found := [][]api.Grain{m}
	for at := 0; at < len(found); at++ {
		for _, g := range found[at] {
			for to := 1; to < g.Size; to++ {
				l, e := wash.Grind(found[at], []api.Move{move(g.Size, to, 1)})
				if e != api.OK {
					t.Fatal(found[at], e)
				}
				if !slices.ContainsFunc(found, func(x []api.Grain) bool { return slices.Equal(x, l) }) {
					found = append(found, l)
				}
			}
		}
	}
	return found
}

// checkFiner checks what IsFiner, Moves and Work say of lots of the same mass.
func checkFiner(t *testing.T, l, m []api.Grain, want bool) {
	t.Helper()
	if is, e := wash.IsFiner(l, m); is != want || e != api.OK {
		t.Error(l, m, is, e, want)
	}
	moves, ok, e := wash.Moves(l, m)
	if ok != want || e != api.OK || !ok && len(moves) != 0 {
		t.Error(l, m, moves, ok, e, want)
	}
	n, can, e := wash.Work(l, m)
	if can != want || e != api.OK {
		t.Error(l, m, n, can, e, want)
	}
	sum, work := 0, 0
	if want {
		if e := wash.CheckFiner(l, m, moves); e != api.OK {
			t.Error(l, m, moves, e)
		}
		for size := range api.MaxSize + 1 {
			sum += below(t, l, size) - below(t, m, size)
		}
		for _, x := range moves {
			work += x.Mass * (x.From - x.To)
		}
	}
	if n != sum || n != work {
		t.Error(l, m, n, sum, work)
	}
}

func TestLargeLotsAreGround(t *testing.T) { // P1.5, P1.6
	for i, c := range []struct{ l, m []api.Grain }{
		{lot(1, 100, 2, 100, 3, 100, 4, 100, 5, 100, 6, 100), lot(15, 100, 16, 100, 17, 100, 18, 100, 19, 100, 20, 100)},
		{lot(1, 20, 3, 20, 5, 20, 7, 20, 9, 20, 11, 10), lot(2, 10, 4, 20, 6, 20, 8, 20, 10, 20, 12, 20)},
		{lot(1, 5, 2, 5, 3, 1, 4, 4, 9, 3), lot(2, 7, 3, 4, 5, 1, 8, 2, 9, 1, 20, 3)},
		{lot(1, 1, 2, 99, 3, 100), lot(2, 100, 3, 100)},
	} {
		checkFiner(t, c.l, c.m, true)
		checkFiner(t, c.m, c.l, false)
		if t.Failed() {
			t.Fatal(i)
		}
	}
}

func TestManyLotsAreGround(t *testing.T) { // P1.5, P1.6
	finer, lots := 0, equalLots()
	for _, l := range lots {
		for _, m := range lots {
			want := isBelow(t, l, m)
			checkFiner(t, l, m, want)
			if want {
				finer++
			}
		}
	}
	if finer < 2*len(lots) {
		t.Error("too few lots are finer than another one to tell anything:", finer)
	}
}

// isBelow is the document's definition of finer.
func isBelow(t *testing.T, l, m []api.Grain) bool {
	t.Helper()
	for size := 1; size <= api.MaxSize; size++ {
		if below(t, l, size) < below(t, m, size) {
			return false
		}
	}
	return true
}

func TestMovesAreTheSameEachTime(t *testing.T) { // R11
	l, m := lot(1, 5, 2, 5, 3, 1, 4, 4, 9, 3), lot(2, 7, 3, 4, 5, 1, 8, 2, 9, 1, 20, 3)
	first, _, _ := wash.Moves(l, m)
	for range 3 {
		if again, _, _ := wash.Moves(l, m); !slices.Equal(first, again) {
			t.Error(first, again)
		}
	}
}

func TestWork(t *testing.T) { // P1.6
	l, m := lot(1, 3, 4, 1), lot(1, 1, 4, 3)
	for i, c := range []struct {
		l, m []api.Grain
		n    int
		ok   bool
	}{{l, m, 6, true}, {m, l, 0, false}, {l, l, 0, true}, {nil, nil, 0, true}, {lot(1, 100), lot(20, 100), 1900, true}, {lot(2, 2), lot(1, 1, 3, 1), 0, false}, {lot(2, 2), lot(1, 1, 20, 1), 0, false}} {
		if n, ok, e := wash.Work(c.l, c.m); n != c.n || ok != c.ok || e != api.OK {
			t.Error(i, n, ok, e)
		}
	}
}

func TestMeanOfAFinerLotIsNotGreater(t *testing.T) { // P1.5, P1.6: Work is the mass times the difference
	lots := lotsOf(5, 4)
	for _, l := range lots {
		for _, m := range lots {
			n, ok, _ := wash.Work(l, m)
			a, _ := wash.Mean(l)
			b, _ := wash.Mean(m)
			if diff := 5*b.Num*a.Den - 5*a.Num*b.Den; ok && (diff < 0 || n*a.Den*b.Den != diff) {
				t.Error(l, m, n, a, b)
			}
		}
	}
}
