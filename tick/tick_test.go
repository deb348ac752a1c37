package tick

import (
	"math"
	"slices"
	"testing"

	"clepsydra/api"
)

// edges has both sides of each bound of a time, and the ends of the numbers.
func edges() []int64 {
	return []int64{
		math.MinInt64, math.MinInt64 + 1, -api.Final - 1, -api.Final, -7, -1,
		0, 1, 2, 3, 17, api.Final / 2, api.Final/2 + 1, api.Final - 1,
		api.Final, api.Final + 1, 2 * api.Final, math.MaxInt64 - 1, math.MaxInt64,
	}
}

// asTime is the chapter's word 'clamped', written apart from the package.
func asTime(t int64) int64 {
	switch {
	case t < 0:
		return 0
	case t > 1<<40:
		return 1 << 40
	}
	return t
}

func TestP1_1Clamp(t *testing.T) {
	cases := []struct{ in, want int64 }{
		{0, 0}, {1, 1}, {17, 17}, {-1, 0}, {-7, 0}, {math.MinInt64, 0},
		{1<<40 - 1, 1<<40 - 1}, {1 << 40, 1 << 40}, {1<<40 + 1, 1 << 40}, {math.MaxInt64, 1 << 40},
	}
	for _, c := range cases {
		if got := Clamp(c.in); got != c.want {
			t.Errorf("Clamp(%d) = %d, want %d", c.in, got, c.want)
		}
	}
}

func TestP1_1Add(t *testing.T) {
	cases := []struct{ a, b, want int64 }{
		{0, 0, 0}, {3, 4, 7}, {api.Final - 4, 4, api.Final}, {api.Final - 4, 3, api.Final - 1},
		{api.Final - 4, 5, api.Final}, {api.Final, 5, api.Final}, {api.Final, api.Final, api.Final},
		{3, -7, 3}, {-7, 3, 3}, {-7, -7, 0}, {api.Final + 9, -9, api.Final},
		{math.MaxInt64, math.MaxInt64, api.Final}, {math.MinInt64, math.MinInt64, 0},
		{math.MaxInt64, math.MinInt64, api.Final}, {5, math.MinInt64, 5},
	}
	for _, c := range cases {
		if got := Add(c.a, c.b); got != c.want {
			t.Errorf("Add(%d, %d) = %d, want %d", c.a, c.b, got, c.want)
		}
	}
	for _, a := range edges() {
		for _, b := range edges() {
			if got, want := Add(a, b), asTime(asTime(a)+asTime(b)); got != want {
				t.Errorf("Add(%d, %d) = %d, want %d", a, b, got, want)
			}
		}
	}
}

func TestP1_1Sub(t *testing.T) {
	cases := []struct{ a, b, want int64 }{
		{0, 0, 0}, {7, 4, 3}, {7, 7, 0}, {3, 5, 0}, {3, -7, 3}, {-7, 3, 0}, {-7, -9, 0},
		{api.Final, api.Final, 0}, {api.Final, 1, api.Final - 1}, {api.Final + 5, 5, api.Final - 5},
		{api.Final, api.Final + 5, 0}, {api.Final + 5, api.Final + 2, 0},
		{math.MaxInt64, math.MinInt64, api.Final}, {math.MinInt64, math.MaxInt64, 0},
		{5, math.MinInt64, 5}, {math.MinInt64, 5, 0},
	}
	for _, c := range cases {
		if got := Sub(c.a, c.b); got != c.want {
			t.Errorf("Sub(%d, %d) = %d, want %d", c.a, c.b, got, c.want)
		}
	}
	for _, a := range edges() {
		for _, b := range edges() {
			if got, want := Sub(a, b), asTime(asTime(a)-asTime(b)); got != want {
				t.Errorf("Sub(%d, %d) = %d, want %d", a, b, got, want)
			}
		}
	}
}

func TestP1_2Floor(t *testing.T) {
	cases := []struct{ t, size, want int64 }{
		{17, 5, 15}, {15, 5, 15}, {14, 5, 10}, {4, 5, 0}, {0, 5, 0}, {17, 1, 17}, {17, 17, 17}, {17, 18, 0},
		{-1, 5, 0}, {-17, 5, 0}, {math.MinInt64, 5, 0},
		{api.Final, 1, api.Final}, {api.Final, 5, 1099511627775}, {api.Final + 4, 5, 1099511627775},
		{math.MaxInt64, 5, 1099511627775}, {math.MaxInt64, 1, api.Final},
		{api.Final, api.Final, api.Final}, {api.Final - 1, api.Final, 0}, {math.MaxInt64, api.Final, api.Final},
		{api.Final, api.Final - 1, api.Final - 1},
	}
	for _, c := range cases {
		if got := Floor(c.t, c.size); got != c.want {
			t.Errorf("Floor(%d, %d) = %d, want %d", c.t, c.size, got, c.want)
		}
	}
}

func TestP1_2FloorWrongSize(t *testing.T) {
	for _, size := range []int64{0, -1, -5, -17, math.MinInt64, api.Final + 1, 2 * api.Final, math.MaxInt64} {
		for _, at := range edges() {
			if got := Floor(at, size); got != 0 {
				t.Errorf("Floor(%d, %d) = %d, want 0", at, size, got)
			}
		}
	}
}

func TestP1_2FloorIsGreatestMultiple(t *testing.T) {
	for _, at := range edges() {
		for _, size := range edges() {
			if size < 1 || size > api.Final {
				continue
			}
			got, time := Floor(at, size), asTime(at)
			if got%size != 0 || got > time || time-got >= size || got < 0 {
				t.Errorf("Floor(%d, %d) = %d", at, size, got)
			}
		}
	}
}

func TestP1_3FirstAndLast(t *testing.T) {
	cases := []struct {
		l           []int64
		first, last int64
	}{
		{nil, api.Final, 0},
		{[]int64{}, api.Final, 0},
		{[]int64{0}, 0, 0},
		{[]int64{5}, 5, 5},
		{[]int64{api.Final}, api.Final, api.Final},
		{[]int64{2, 5, 9}, 2, 9},
		{[]int64{9, 5, 2}, 2, 9},
		{[]int64{5, 2, 9, 5}, 2, 9},
		{[]int64{5, 9, 2, 5}, 2, 9},
		{[]int64{4, 4}, 4, 4},
		{[]int64{7, -2}, 0, 7},
		{[]int64{-2, -9}, 0, 0},
		{[]int64{math.MinInt64}, 0, 0},
		{[]int64{api.Final + 1}, api.Final, api.Final},
		{[]int64{math.MaxInt64, api.Final - 1}, api.Final - 1, api.Final},
		{[]int64{math.MaxInt64, math.MinInt64}, 0, api.Final},
	}
	for _, c := range cases {
		if got := First(c.l); got != c.first {
			t.Errorf("First(%v) = %d, want %d", c.l, got, c.first)
		}
		if got := Last(c.l); got != c.last {
			t.Errorf("Last(%v) = %d, want %d", c.l, got, c.last)
		}
	}
}

// Rule R4: a list that is passed stays as it was, even one whose numbers are no times.
func TestP1_3ListsStay(t *testing.T) {
	l := edges()
	First(l)
	Last(l)
	if !slices.Equal(l, edges()) {
		t.Errorf("the list became %v", l)
	}
}

func TestP1_4AddCommutesAndAssociates(t *testing.T) {
	for _, a := range edges() {
		for _, b := range edges() {
			if Add(a, b) != Add(b, a) {
				t.Errorf("Add(%d, %d) does not commute", a, b)
			}
			for _, c := range edges() {
				if Add(Add(a, b), c) != Add(a, Add(b, c)) {
					t.Errorf("Add of %d, %d, %d does not associate", a, b, c)
				}
			}
		}
	}
}

func TestP1_4AddIsMonotonic(t *testing.T) {
	rising := edges()
	if !slices.IsSorted(rising) {
		t.Fatal("the edges must rise")
	}
	for _, fixed := range edges() {
		for i := 1; i < len(rising); i++ {
			low, high := rising[i-1], rising[i]
			if Add(low, fixed) > Add(high, fixed) || Add(fixed, low) > Add(fixed, high) {
				t.Errorf("Add falls from %d to %d with %d", low, high, fixed)
			}
		}
	}
}

func TestP1_4FinalStays(t *testing.T) {
	for _, a := range edges() {
		if Add(api.Final, a) != api.Final || Add(a, api.Final) != api.Final {
			t.Errorf("the sum of Final and %d is not Final", a)
		}
	}
}

func TestP1_4SubUndoesAdd(t *testing.T) {
	for _, a := range edges() {
		for _, b := range edges() {
			if a < 0 || b < 0 || a > api.Final || b > api.Final || a+b > api.Final {
				continue
			}
			if got := Sub(Add(a, b), b); got != a {
				t.Errorf("Sub(Add(%d, %d), %d) = %d", a, b, b, got)
			}
		}
	}
}
