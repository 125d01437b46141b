// Package span is layer 1: intervals of integers and sets of them. See shared/doc/01-span.md.
package span

import (
	"cmp"
	"slices"

	"gangsaw/api"
)

// Limits of intervals.
const (
	MaxNumber = 1000000000000
	MaxList   = 10000
)

// Check returns OK for a valid interval, or the first error.
func Check(a api.Interval) api.Errno { return checkEach(a) }

// Contains reports whether a number lies in an interval.
func Contains(a api.Interval, n int) bool { return a.Lo <= n && n <= a.Hi }

// Within reports whether all numbers of a lie in b.
func Within(a, b api.Interval) bool { return a.Lo > a.Hi || hull(a, b) == b }

// Length returns how many numbers an interval has.
func Length(a api.Interval) int {
	if Check(a) != api.OK {
		return 0
	}
	return a.Hi - a.Lo + 1
}

// Add returns the interval of all sums of a number of a and one of b.
func Add(a, b api.Interval) (api.Interval, api.Errno) {
	if e := checkEach(a, b); e != api.OK {
		return api.Interval{}, e
	}
	return inRange(total(a, b))
}

// Sub returns the interval of all differences of a number of a and one of b.
func Sub(a, b api.Interval) (api.Interval, api.Errno) {
	if e := checkEach(a, b); e != api.OK {
		return api.Interval{}, e
	}
	return inRange(total(a, api.Interval{Lo: -b.Hi, Hi: -b.Lo}))
}

// Sum returns the interval of all sums of one number of each interval.
func Sum(list []api.Interval) (api.Interval, api.Errno) {
	if e := checkLists(list); e != api.OK {
		return api.Interval{}, e
	}
	return inRange(total(list...))
}

// Intersect returns the common numbers.
func Intersect(a, b api.Interval) (api.Interval, api.Errno) {
	if e := checkEach(a, b); e != api.OK {
		return api.Interval{}, e
	}
	both := meet(a, b)
	if both.Lo > both.Hi {
		return api.Interval{}, api.ErrNone
	}
	return both, api.OK
}

// Hull returns the least interval that contains both.
func Hull(a, b api.Interval) (api.Interval, api.Errno) {
	if e := checkEach(a, b); e != api.OK {
		return api.Interval{}, e
	}
	return hull(a, b), api.OK
}

// Normalize returns the set of all numbers of intervals: increasing, not touching.
func Normalize(list []api.Interval) ([]api.Interval, api.Errno) {
	if e := checkLists(list); e != api.OK {
		return nil, e
	}
	return normal(list), api.OK
}

// Union returns the set of the numbers of one list or the other.
func Union(a, b []api.Interval) ([]api.Interval, api.Errno) {
	if e := checkLists(a, b); e != api.OK {
		return nil, e
	}
	return normal(slices.Concat(a, b)), api.OK
}

// Minus returns the set of the numbers of a that are not in b.
func Minus(a, b []api.Interval) ([]api.Interval, api.Errno) {
	if e := checkLists(a, b); e != api.OK {
		return nil, e
	}
	return common(normal(a), gaps(normal(b))), api.OK
}

// Common returns the set of the numbers of both lists.
func Common(a, b []api.Interval) ([]api.Interval, api.Errno) {
	if e := checkLists(a, b); e != api.OK {
		return nil, e
	}
	return common(normal(a), normal(b)), api.OK
}

// Count returns how many numbers the intervals of a list have together, each counted once.
func Count(list []api.Interval) (int, api.Errno) {
	if e := checkLists(list); e != api.OK {
		return 0, e
	}
	count := 0
	for _, in := range normal(list) {
		count += Length(in)
	}
	return count, api.OK
}

// checkEach looks for each error in all intervals before it looks for the next one.
func checkEach(list ...api.Interval) api.Errno {
	for _, in := range list {
		if outside(in.Lo) || outside(in.Hi) {
			return api.ErrRange
		}
	}
	for _, in := range list {
		if in.Lo > in.Hi {
			return api.ErrInvalid
		}
	}
	return api.OK
}

func checkLists(lists ...[]api.Interval) api.Errno {
	for _, list := range lists {
		if len(list) > MaxList {
			return api.ErrTooMany
		}
	}
	return checkEach(slices.Concat(lists...)...)
}

func outside(n int) bool { return n < -MaxNumber || n > MaxNumber }

// inRange returns a computed interval, or the error of one that leaves the range.
func inRange(a api.Interval) (api.Interval, api.Errno) {
	if e := Check(a); e != api.OK {
		return api.Interval{}, e
	}
	return a, api.OK
}

// total adds up the ends. At most MaxList valid intervals come here, so that the sums cannot overflow.
func total(list ...api.Interval) api.Interval {
	var sum api.Interval
	for _, in := range list {
		sum.Lo += in.Lo
		sum.Hi += in.Hi
	}
	return sum
}

func hull(a, b api.Interval) api.Interval {
	return api.Interval{Lo: min(a.Lo, b.Lo), Hi: max(a.Hi, b.Hi)}
}

// meet returns the common numbers; Lo is greater than Hi if there are none.
func meet(a, b api.Interval) api.Interval {
	return api.Interval{Lo: max(a.Lo, b.Lo), Hi: min(a.Hi, b.Hi)}
}

// normal returns the normal form of valid intervals, in new memory.
func normal(list []api.Interval) []api.Interval {
	sorted := slices.Clone(list)
	slices.SortFunc(sorted, func(a, b api.Interval) int { return cmp.Compare(a.Lo, b.Lo) })
	var out []api.Interval
	for _, in := range sorted {
		last := len(out) - 1
		if last >= 0 && in.Lo <= out[last].Hi+1 {
			out[last] = hull(out[last], in)
		} else {
			out = append(out, in)
		}
	}
	return out
}

// common returns the normal form of the common numbers of two normal forms.
func common(a, b []api.Interval) []api.Interval {
	var out []api.Interval
	i, k := 0, 0
	for i < len(a) && k < len(b) {
		if both := meet(a[i], b[k]); both.Lo <= both.Hi {
			out = append(out, both)
		}
		// The interval that ends first meets nothing of what follows in the other list.
		if a[i].Hi < b[k].Hi {
			i++
		} else {
			k++
		}
	}
	return out
}

// gaps returns the normal form of the numbers in range that are not in a normal form.
func gaps(list []api.Interval) []api.Interval {
	var out []api.Interval
	next := -MaxNumber
	for _, in := range list {
		if next < in.Lo {
			out = append(out, api.Interval{Lo: next, Hi: in.Lo - 1})
		}
		next = in.Hi + 1
	}
	if next <= MaxNumber {
		out = append(out, api.Interval{Lo: next, Hi: MaxNumber})
	}
	return out
}
