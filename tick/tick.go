// Package tick is layer 1: see shared/doc/01-tick.md.
package tick

import "clepsydra/api"

// moment is a type of its own so that the order of times stands in one place.
type moment int64

func (m moment) before(other moment) bool { return m < other }

func (m moment) after(other moment) bool { return other.before(m) }

// pick takes the comparison, so that one rule finds both the least and the greatest.
func pick(wins func(a, b moment) bool, a, b moment) moment {
	if wins(b, a) {
		return b
	}
	return a
}

func clamp(t int64) moment {
	return pick(moment.before, pick(moment.after, moment(t), 0), api.Final)
}

// extreme starts from the answer for an empty list: no time is behind that one, so it never hides a time of the list.
func extreme(wins func(a, b moment) bool, none moment, l []int64) int64 {
	best := none
	for _, t := range l {
		best = pick(wins, best, clamp(t))
	}
	return int64(best)
}

// Clamp makes a time of any number.
func Clamp(t int64) int64 { return int64(clamp(t)) }

// Add and Sub clamp ahead of reckoning, so neither can wrap around.
func Add(a, b int64) int64 { return Clamp(Clamp(a) + Clamp(b)) }

func Sub(a, b int64) int64 { return Clamp(Clamp(a) - Clamp(b)) }

// Floor is the last time, not above one, that sizes of a size make.
func Floor(t, size int64) int64 {
	if size < 1 || size > api.Final {
		return 0
	}
	time := Clamp(t)
	return time - time%size
}

// First and Last are the least and the greatest one of times.
func First(l []int64) int64 { return extreme(moment.before, api.Final, l) }

func Last(l []int64) int64 { return extreme(moment.after, 0, l) }
