package wash

import "verditer/api"

// lowest returns num/den in lowest terms, for a num from 0 on and a den above 0.
func lowest(num, den int) api.Rat {
	a, b := num, den
	for a != 0 {
		a, b = b%a, a
	}
	return api.Rat{Num: num / b, Den: den / b}
}

// product returns a times b.
func product(a, b api.Rat) api.Rat {
	return lowest(a.Num*b.Num, a.Den*b.Den)
}

// oneMinus returns what a part leaves of a whole.
func oneMinus(part api.Rat) api.Rat {
	return api.Rat{Num: part.Den - part.Num, Den: part.Den}
}
