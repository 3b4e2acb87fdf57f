// Package fix reckons with fixed numbers, in 256ths, that stay at their ends.
package fix

import "fulmar/api"

// Of any number the nearest one that may be.
func Of(x int) int { return Clip(x, -api.Most, api.Most) }

// Clip x to lo and hi (lo, if hi is below it).
func Clip(x, lo, hi int) int {
	if x < lo || hi < lo {
		return lo
	}
	return min(x, hi)
}

// Add numbers, one behind the other.
func Add(l ...int) int {
	sum := 0
	for _, x := range l {
		// Clipped at each number, not at the end alone: what went over an end is lost.
		sum = Of(sum + Of(x))
	}
	return sum
}

// Sub b from a.
func Sub(a, b int) int { return Of(Of(a) - Of(b)) }

// Mul a by b.
func Mul(a, b int) int { return Of(nearest(Of(a)*Of(b), api.One)) }

// Div a by b.
func Div(a, b int) (int, error) {
	if b == 0 {
		return 0, api.ErrZero
	}
	return Of(nearest(api.One*Of(a), Of(b))), nil
}

// nearest whole number to n by d; of two as near the one further from 0.
func nearest(n, d int) int {
	q, r := n/d, n%d
	if 2*size(r) < size(d) {
		return q
	}
	// q may be 0, so that the sign is to be had of n and d only.
	if (n < 0) != (d < 0) {
		return q - 1
	}
	return q + 1
}

func size(x int) int { return max(x, -x) }

// Root of a.
func Root(a int) (int, error) {
	if a < 0 {
		return 0, api.ErrRange
	}
	return Of(wholeRoot(api.One * Of(a))), nil
}

// wholeRoot finds the greatest number whose square isn't above n, bit by bit.
func wholeRoot(n int) int {
	// One times Most is below 2^39, so that no root needs a bit above this one.
	const highest = 1 << 19
	root := 0
	for bit := highest; bit > 0; bit >>= 1 {
		if next := root + bit; next*next <= n {
			root = next
		}
	}
	return root
}
