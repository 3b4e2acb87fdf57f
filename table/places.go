package table

import (
	"slices"

	"fulmar/api"
	"fulmar/fix"
)

// checkPlaces goes through all of them twice: one that is too far is told ahead of one that doesn't rise, wherever they stand.
func checkPlaces(at []int) error {
	if len(at) < 2 {
		return api.ErrForm
	}
	if len(at) > api.MaxPoints {
		return api.ErrLimit
	}
	if err := checkWorths(at); err != nil {
		return err
	}
	for i, x := range at[1:] {
		if x <= at[i] {
			return api.ErrForm
		}
	}
	return nil
}

func checkWorths(l []int) error {
	if slices.ContainsFunc(l, isBeyond) {
		return api.ErrRange
	}
	return nil
}

func isBeyond(x int) bool { return x > api.MaxWorth || x < -api.MaxWorth }

// ends of a list that isn't empty.
func ends[T any](l []T) (first, last T) { return l[0], l[len(l)-1] }

// stand: between which places x, clipped to their ends, stands: i and the next; how far past the one, and what is left to the other.
func stand(at []int, x int) (i, past, left int) {
	first, last := ends(at)
	x = fix.Clip(x, first, last)
	for i+2 < len(at) && at[i+1] <= x {
		i++
	}
	return i, x - at[i], at[i+1] - x
}

// nearest whole number to n by d, which is above 0; of two as near the greater one.
func nearest(n, d int) int {
	q, r := n/d, n%d
	if r < 0 {
		// The rest is to be counted up from the number below, on both sides of 0.
		q, r = q-1, r+d
	}
	if r >= d-r {
		q++
	}
	return q
}
