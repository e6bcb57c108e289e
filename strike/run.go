package strike

import (
	"slices"

	"verditer/api"
)

// Limit returns the greatest number of runs for which the stock is enough, and the compounds that forbid one more.
func Limit(s api.Strike, times, stock []int) (int, []int, api.Errno) {
	if e := validateRuns(s, times, stock); e != api.OK {
		return 0, nil, e
	}
	runs := limit(times, stock)
	var short []int
	for i, n := range stock {
		if n < (runs+1)*times[i] {
			short = append(short, i)
		}
	}
	return runs, short, api.OK
}

// Run returns what is left of the stock after so many runs, and what comes out.
func Run(s api.Strike, times, stock []int, runs int) ([]int, []int, api.Errno) {
	if e := validateRuns(s, times, stock); e != api.OK {
		return nil, nil, e
	}
	if runs < 0 || runs > api.MaxStock {
		return nil, nil, api.ErrArg
	}
	if runs > limit(times, stock) {
		return nil, nil, api.ErrShort
	}
	var left, made []int
	for i, n := range times {
		if i < len(stock) {
			left = append(left, stock[i]-runs*n)
		} else {
			made = append(made, runs*n)
		}
	}
	return left, made, api.OK
}

// validateRuns is validateTimes, and ErrArg if stock is not a number for each compound of In, and ErrRule if times are
// not a balance.
func validateRuns(s api.Strike, times, stock []int) api.Errno {
	if e := validateTimes(s, times); e != api.OK {
		return e
	}
	if !areWithin(stock, len(s.In), 0, api.MaxStock) {
		return api.ErrArg
	}
	if even, e := Balances(s, times); e != api.OK || !even || slices.Min(times) <= 0 {
		return api.ErrRule
	}
	return api.OK
}

// limit returns the greatest number of runs for which the stock of each compound of In is enough.
func limit(times, stock []int) int {
	runs := api.MaxStock // times are above 0, so no stock is enough for more
	for i, n := range stock {
		runs = min(runs, n/times[i])
	}
	return runs
}
