package wash_test

import (
	"math"
	"slices"
	"testing"

	"verditer/api"
	"verditer/wash"
)

func TestPart(t *testing.T) { // P1.1, P1.2
	for size := 1; size <= api.MaxSize; size++ {
		for time := 0; time <= api.MaxTime; time++ {
			for depth := 1; depth <= api.MaxDepth; depth++ {
				want := whole(1)
				if size*time < depth {
					want = reduced(size*time, depth)
				}
				if r, e := wash.Part(size, time, depth); r != want || e != api.OK {
					t.Fatal(size, time, depth, r, e)
				}
			}
		}
	}
	if r, e := wash.Part(9, 0, 10); r != rat(0, 1) || e != api.OK {
		t.Error(r, e)
	}
	for _, c := range [][3]int{{0, 1, 1}, {21, 1, 1}, {1, -1, 1}, {1, 101, 1}, {1, 1, 0}, {1, 1, 21}, {math.MinInt, math.MaxInt, math.MinInt}, {math.MaxInt, 1, 1}, {1, math.MaxInt, 1}, {1, 1, math.MaxInt}} {
		if r, e := wash.Part(c[0], c[1], c[2]); r != (api.Rat{}) || e != api.ErrArg {
			t.Error(c, r, e)
		}
	}
}

// badTimes has pairs of a time and a depth of which one is not as it has to be.
func badTimes() [][2]int {
	return [][2]int{{-1, 1}, {101, 1}, {1, 0}, {1, -1}, {1, 21}, {math.MaxInt, 1}, {math.MinInt, 1}, {1, math.MaxInt}, {1, math.MinInt}}
}

func TestSettle(t *testing.T) { // P1.2
	sunk, left, e := wash.Settle(lot(1, 2, 5, 4), 1, 10)
	if !slices.Equal(sunk, []api.Rat{rat(1, 5), whole(2)}) || !slices.Equal(left, []api.Rat{rat(9, 5), whole(2)}) || e != api.OK {
		t.Error(sunk, left, e)
	}
	sunk, left, e = wash.Settle(lot(5, 4), 100, 10)
	if !slices.Equal(sunk, []api.Rat{whole(4)}) || !slices.Equal(left, []api.Rat{rat(0, 1)}) || e != api.OK {
		t.Error(sunk, left, e)
	}
	if sunk, left, e = wash.Settle(nil, 1, 1); len(sunk)+len(left) != 0 || e != api.OK {
		t.Error(sunk, left, e)
	}
	for _, c := range badTimes() {
		for _, l := range [][]api.Grain{nil, lot(1, 2)} {
			if sunk, left, e = wash.Settle(l, c[0], c[1]); len(sunk)+len(left) != 0 || e != api.ErrArg {
				t.Error(c, sunk, left, e)
			}
		}
	}
}

func TestWhatSinksAndWhatStaysIsAll(t *testing.T) { // S1, P1.2
	for _, l := range someLots() {
		for _, c := range [][2]int{{0, 1}, {1, 20}, {1, 10}, {2, 19}, {3, 7}, {100, 20}} {
			sunk, left, e := wash.Settle(l, c[0], c[1])
			if len(sunk) != len(l) || len(left) != len(l) || e != api.OK {
				t.Fatal(l, c, sunk, left, e)
			}
			for i, g := range l {
				part, _ := wash.Part(g.Size, c[0], c[1])
				if sunk[i] != reduced(part.Num*g.Mass, part.Den) || plus(sunk[i], left[i]) != whole(g.Mass) || !isValid(left[i]) {
					t.Error(l, c, i, sunk[i], left[i])
				}
			}
		}
	}
}

func TestWash(t *testing.T) { // P1.3
	if l, e := wash.Wash(lot(1, 2, 5, 4), 1, 10, 2); !slices.Equal(l, []api.Rat{rat(81, 50), whole(1)}) || e != api.OK {
		t.Error(l, e)
	}
	if l, e := wash.Wash(lot(1, 97), 1, 20, 4); !slices.Equal(l, []api.Rat{rat(97*19*19*19*19, 160000)}) || e != api.OK {
		t.Error(l, e)
	}
	for _, l := range someLots() {
		for _, c := range [][2]int{{0, 1}, {1, 20}, {1, 10}, {2, 19}, {100, 1}} {
			for times := 1; times <= api.MaxTimes; times++ {
				checkWash(t, l, c[0], c[1], times)
			}
		}
	}
}

// checkWash holds Wash against the power of what one settling leaves.
func checkWash(t *testing.T, l []api.Grain, time, depth, times int) {
	t.Helper()
	left, e := wash.Wash(l, time, depth, times)
	if len(left) != len(l) || e != api.OK {
		t.Fatal(l, time, depth, times, left, e)
	}
	for i, g := range l {
		part, _ := wash.Part(g.Size, time, depth)
		num, den := g.Mass, 1
		for range times {
			num, den = num*(part.Den-part.Num), den*part.Den
		}
		if left[i].Num*den != left[i].Den*num || !isValid(left[i]) {
			t.Error(l, time, depth, times, i, left[i])
		}
	}
}

func TestWashRefuses(t *testing.T) { // P1.1
	for _, times := range []int{math.MinInt, -1, 0, 5, math.MaxInt} {
		for _, l := range [][]api.Grain{nil, lot(1, 2)} {
			if left, e := wash.Wash(l, 1, 1, times); len(left) != 0 || e != api.ErrArg {
				t.Error(times, left, e)
			}
		}
	}
	for _, c := range badTimes() {
		if left, e := wash.Wash(lot(1, 2), c[0], c[1], 1); len(left) != 0 || e != api.ErrArg {
			t.Error(c, left, e)
		}
	}
}

func TestPots(t *testing.T) { // P1.3
	p, e := wash.Pots(lot(1, 2, 5, 4), []int{1, 2}, 10)
	want := [][]api.Rat{{rat(1, 5), whole(2)}, {rat(9, 25), whole(2)}, {rat(36, 25), whole(0)}}
	if e != api.OK || !slices.EqualFunc(p, want, slices.Equal) {
		t.Error(p, e)
	}
	for _, l := range someLots() {
		for _, times := range [][]int{nil, {1}, {2, 1}, {1, 1, 3}, {0, 100, 1}} {
			p, e := wash.Pots(l, times, 19)
			if e != api.OK || len(p) != len(times)+1 {
				t.Fatal(l, times, p, e)
			}
			for i, g := range l {
				sum := whole(0)
				for _, q := range p {
					sum = plus(sum, q[i])
				}
				if sum != whole(g.Mass) {
					t.Error(l, times, i, sum)
				}
			}
		}
		two, _ := wash.Pots(l, []int{2, 2}, 13)
		if left, _ := wash.Wash(l, 2, 13, 2); !slices.Equal(two[2], left) {
			t.Error(l, two, left)
		}
	}
}

func TestPotsOfNothing(t *testing.T) { // P1.3: the lists are there, without numbers
	p, e := wash.Pots(nil, []int{1, 2, 3}, 10)
	if e != api.OK || len(p) != 4 {
		t.Error(p, e)
	}
	for _, q := range p {
		if len(q) != 0 {
			t.Error(p)
		}
	}
}

func TestPotsRefuses(t *testing.T) { // P1.1, P1.3
	for i, c := range []struct {
		l     []api.Grain
		times []int
		depth int
		want  api.Errno
	}{
		{lot(1, 2), []int{1, 1, 1, 1}, 1, api.ErrLarge},
		{lot(1, 2), []int{-1, -1, -1, -1}, 0, api.ErrLarge},
		{lot(1, 0), []int{1, 1, 1, 1}, 1, api.ErrArg},
		{lot(1, 2), nil, 0, api.ErrArg},
		{lot(1, 2), nil, 21, api.ErrArg},
		{lot(1, 2), []int{-1}, 1, api.ErrArg},
		{lot(1, 2), []int{0, 100, 101}, 1, api.ErrArg},
		{nil, []int{101}, 1, api.ErrArg},
	} {
		if p, e := wash.Pots(c.l, c.times, c.depth); len(p) != 0 || e != c.want {
			t.Error(i, p, e, c.want)
		}
	}
}

func TestTime(t *testing.T) { // P1.4
	l := lot(1, 2, 5, 4)
	for _, c := range [][3]int{{1, 2, 2}, {0, 1, 0}, {0, 100, 0}, {1, 1, 10}, {11, 30, 1}, {3, 8, 2}, {22, 30, 2}, {74, 100, 3}, {100, 100, 10}} {
		if n, e := wash.Time(l, 10, c[0], c[1]); n != c[2] || e != api.OK {
			t.Error(c, n, e)
		}
	}
	if n, e := wash.Time(nil, 10, 1, 1); n != 0 || e != api.OK {
		t.Error(n, e)
	}
	if n, e := wash.Time(lot(1, 100), 20, 1, 1); n != 20 || e != api.OK {
		t.Error(n, e)
	}
	for _, l := range someLots() {
		for _, c := range [][3]int{{1, 1, 1}, {20, 1, 1}, {20, 1, 100}, {19, 99, 100}, {13, 1, 3}, {7, 0, 1}} {
			checkTime(t, l, c[0], c[1], c[2])
		}
	}
}

// checkTime checks that enough sinks in the time of Time, and not enough in one less.
func checkTime(t *testing.T, l []api.Grain, depth, num, den int) {
	t.Helper()
	enough := func(time int) bool {
		sunk, _, e := wash.Settle(l, time, depth)
		if e != api.OK {
			t.Fatal(l, time, depth, e)
		}
		sum := whole(0)
		for _, s := range sunk {
			sum = plus(sum, s)
		}
		return sum.Num*den >= massOf(t, l)*num*sum.Den
	}
	n, e := wash.Time(l, depth, num, den)
	if e != api.OK || !enough(n) || n > 0 && enough(n-1) {
		t.Error(l, depth, num, den, n, e)
	}
}

func TestTimeRefuses(t *testing.T) { // P1.1, P1.4
	for _, c := range [][3]int{{10, 1, 0}, {10, 0, 0}, {10, 1, 101}, {10, -1, 2}, {10, 3, 2}, {10, -1, -2}, {0, 1, 2}, {21, 1, 2}, {10, math.MinInt, 1}, {10, math.MaxInt, math.MaxInt}, {math.MaxInt, 1, 1}} {
		for _, l := range [][]api.Grain{nil, lot(1, 2)} {
			if n, e := wash.Time(l, c[0], c[1], c[2]); n != 0 || e != api.ErrArg {
				t.Error(c, n, e)
			}
		}
	}
}
