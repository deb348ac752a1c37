package window

import (
	"math"
	"slices"
	"testing"

	"clepsydra/api"
)

// pair is a size and a slide, with what the chapter says of them.
type pair struct {
	size, slide int64
	valid       bool
}

// byHand has both sides of each bound: slide from 1 to size, size to 2^20 and to 16 times slide.
func byHand() []pair {
	return []pair{
		{10, 5, true}, {4, 4, true}, {4, 5, false}, {10, 3, true}, {10, 1, true},
		{1, 1, true}, {1, 0, false}, {0, 0, false}, {0, 1, false}, {1, -1, false}, {-1, -1, false}, {-1, -2, false}, {-1, 1, false}, {5, -5, false},
		{2, 1, true}, {1, 2, false}, {15, 1, true}, {16, 1, true}, {17, 1, false}, {31, 2, true}, {32, 2, true}, {33, 2, false}, {48, 3, true}, {49, 3, false},
		{1 << 20, 1 << 20, true}, {1<<20 - 1, 1<<20 - 1, true}, {1<<20 + 1, 1<<20 + 1, false}, {1<<20 + 1, 1 << 20, false}, {1<<20 - 1, 1 << 20, false},
		{1 << 20, 1 << 16, true}, {1 << 20, 1<<16 + 1, true}, {1 << 20, 1<<16 - 1, false}, {1<<20 - 16, 1<<16 - 1, true}, {1<<20 - 15, 1<<16 - 1, false},
		{1 << 20, 1, false}, {1 << 20, 0, false}, {1 << 20, 1<<20 - 1, true}, {1<<20 + 1, 1<<16 + 1, false},
		{1 << 40, 1 << 40, false}, {1 << 40, 1 << 36, false}, {1<<32 + 10, 1<<32 + 5, false}, {1<<32 + 10, 5, false}, {10, 1<<32 + 5, false},
		// Products with such slides wrap around.
		{10, 1 << 60, false}, {1 << 60, 1 << 60, false}, {10, 1<<60 + 1, false}, {10, math.MinInt64 + 1, false}, {10, -1 << 60, false},
		{math.MaxInt64, math.MaxInt64, false}, {math.MaxInt64, 1, false}, {1, math.MaxInt64, false}, {10, math.MaxInt64, false},
		{math.MinInt64, math.MinInt64, false}, {math.MinInt64, 1, false}, {1, math.MinInt64, false}, {10, math.MinInt64, false}, {0, math.MinInt64, false},
		{math.MinInt64, math.MaxInt64, false}, {math.MaxInt64, math.MinInt64, false},
	}
}

// pairs adds all small ones, judged apart from the package: 16 slides reach over a size where it is cut into 16 at most.
func pairs() []pair {
	l := byHand()
	for size := int64(-2); size <= 70; size++ {
		for slide := int64(-2); slide <= 72; slide++ {
			l = append(l, pair{size, slide, size >= slide && slide > 0 && (size+slide-1)/slide < 17})
		}
	}
	return l
}

// wrongTimes are no times of windows.
func wrongTimes() []int64 {
	return []int64{math.MinInt64, math.MinInt64 + 1, -1 << 41, -1 << 40, -1 << 32, -10, -2, -1, 1 << 40, 1<<40 + 1, 1<<40 + 12, 1 << 41, math.MaxInt64 - 1, math.MaxInt64}
}

// times has the first ones, the last ones, and those about the starts and the ends of some windows of a pair.
func times(p pair) []int64 {
	l := wrongTimes()
	for t := int64(0); t < 40; t++ {
		l = append(l, t, 1<<40-1-t, 1<<32+t)
	}
	for _, at := range []int64{p.slide, p.size, 2 * p.size, 3*p.size + p.slide, 1<<40 - p.size, 1<<40 - p.slide, 1<<40 - 2*p.size, 1 << 39} {
		l = append(l, at-2, at-1, at, at+1, at+2)
	}
	return l
}

// holding is the chapter's words for the windows that contain a time, written apart from the package: it goes through all that start so near that they could, and asks each.
func holding(p pair, t int64) []api.Window {
	var l []api.Window
	if !p.valid || t < 0 || t >= 1<<40 {
		return l
	}
	for n := max(0, t/p.slide-20); n <= t/p.slide+2; n++ {
		lo := n * p.slide
		hi := min(lo+p.size, 1<<40)
		if lo < 1<<40 && lo <= t && t < hi {
			l = append(l, api.Window{Lo: lo, Hi: hi})
		}
	}
	return l
}

// spans are windows by their ends: Lo, Hi, Lo, Hi and so on.
func spans(ends ...int64) []api.Window {
	var l []api.Window
	for i := 0; i < len(ends); i += 2 {
		l = append(l, api.Window{Lo: ends[i], Hi: ends[i+1]})
	}
	return l
}

func TestP5_1Right(t *testing.T) {
	for _, p := range pairs() {
		if got := Right(p.size, p.slide); got != p.valid {
			t.Errorf("Right(%d, %d) = %v, want %v", p.size, p.slide, got, p.valid)
		}
	}
}

func TestP5_1Of(t *testing.T) {
	const last = 1<<40 - 1
	cases := []struct {
		size, slide, t int64
		want           []api.Window
	}{
		{10, 5, 12, spans(5, 15, 10, 20)},
		{10, 5, 3, spans(0, 10)},
		{10, 5, 0, spans(0, 10)},
		{10, 5, 4, spans(0, 10)},
		{10, 5, 5, spans(0, 10, 5, 15)},
		{10, 5, 9, spans(0, 10, 5, 15)},
		{10, 5, 10, spans(5, 15, 10, 20)},
		{4, 4, 9, spans(8, 12)}, {4, 4, 0, spans(0, 4)}, {4, 4, 3, spans(0, 4)}, {4, 4, 4, spans(4, 8)},
		{4, 5, 9, nil},
		{1, 1, 0, spans(0, 1)}, {1, 1, 7, spans(7, 8)}, {1, 1, last, spans(last, 1<<40)},
		{10, 4, 7, spans(0, 10, 4, 14)},
		{10, 4, 8, spans(0, 10, 4, 14, 8, 18)},
		{10, 4, 10, spans(4, 14, 8, 18)},
		// Windows that would extend over Final end there.
		{10, 5, last, spans(1<<40-6, 1<<40, last, 1<<40)},
		{10, 5, last - 1, spans(last-10, last, last-5, 1<<40)},
		{3, 1, last, spans(last-2, 1<<40, last-1, 1<<40, last, 1<<40)},
		{1 << 20, 1 << 20, last, spans(1<<40-1<<20, 1<<40)},
		{1 << 20, 1 << 20, 1<<20 - 1, spans(0, 1<<20)},
		{10, 5, -1, nil}, {10, 5, 1 << 40, nil}, {10, 5, math.MinInt64, nil}, {10, 5, math.MaxInt64, nil},
		{0, 0, 5, nil}, {10, 0, 5, nil}, {-10, -5, 5, nil}, {17, 1, 5, nil}, {1<<20 + 1, 1 << 20, 5, nil}, {10, 1 << 60, 5, nil},
	}
	for _, c := range cases {
		if got := Of(c.size, c.slide, c.t); !slices.Equal(got, c.want) {
			t.Errorf("Of(%d, %d, %d) = %v, want %v", c.size, c.slide, c.t, got, c.want)
		}
	}
}

func TestP5_1OfAsDefined(t *testing.T) {
	for _, p := range pairs() {
		for _, at := range times(p) {
			if got, want := Of(p.size, p.slide, at), holding(p, at); !slices.Equal(got, want) {
				t.Fatalf("Of(%d, %d, %d) = %v, want %v", p.size, p.slide, at, got, want)
			}
		}
	}
}

// Sixteen windows are the most that contain one time.
func TestP5_1OfMost(t *testing.T) {
	for _, p := range []pair{{16, 1, true}, {32, 2, true}, {1 << 20, 1 << 16, true}, {61, 4, true}, {1 << 20, 1<<16 + 1, true}} {
		most := 0
		for at := 2 * p.size; at < 3*p.size; at += 1 + p.slide/7 {
			most = max(most, len(Of(p.size, p.slide, at)))
		}
		if most != 16 {
			t.Errorf("at most %d windows of %d, one each %d, want 16", most, p.size, p.slide)
		}
	}
}

// numbers are edges for windows' ends and marks, which may be any.
func numbers() []int64 {
	return []int64{
		math.MinInt64, math.MinInt64 + 1, -1 << 40, -2, -1, 0, 1, 2, 9, 10, 11, 15, 1<<32 + 10,
		1<<40 - 1, 1 << 40, 1<<40 + 1, 1<<40 + 2, math.MaxInt64 - 1, math.MaxInt64,
	}
}

func TestP5_2Closed(t *testing.T) {
	cases := []struct {
		w    api.Window
		mark int64
		want bool
	}{
		{api.Window{Lo: 0, Hi: 10}, 9, false}, {api.Window{Lo: 0, Hi: 10}, 10, true}, {api.Window{Lo: 0, Hi: 10}, 11, true},
		{api.Window{Lo: 0, Hi: 10}, 0, false}, {api.Window{Lo: 5, Hi: 15}, 10, false}, {api.Window{Lo: 5, Hi: 15}, 15, true},
		{api.Window{Lo: 5, Hi: 1 << 40}, 1<<40 - 1, false}, {api.Window{Lo: 5, Hi: 1 << 40}, 1 << 40, true},
	}
	for _, c := range cases {
		if got := Closed(c.w, c.mark); got != c.want {
			t.Errorf("Closed(%v, %d) = %v, want %v", c.w, c.mark, got, c.want)
		}
	}
}

// Only Hi and the mark are compared, and they are taken as they are, even where they are no times.
func TestP5_2ClosedOfAny(t *testing.T) {
	rising := numbers()
	if !slices.IsSorted(rising) {
		t.Fatal("the numbers must rise")
	}
	for hiPlace, hi := range rising {
		for markPlace, mark := range rising {
			for _, lo := range rising {
				if got, want := Closed(api.Window{Lo: lo, Hi: hi}, mark), hiPlace <= markPlace; got != want {
					t.Errorf("Closed(%d to %d, %d) = %v, want %v", lo, hi, mark, got, want)
				}
			}
		}
	}
}

func TestP5_2Open(t *testing.T) {
	const last = 1<<40 - 1
	both := spans(5, 15, 10, 20)
	ends := spans(last-2, 1<<40, last-1, 1<<40, last, 1<<40)
	cases := []struct {
		size, slide, t, mark int64
		want                 []api.Window
	}{
		{10, 5, 12, 14, both}, {10, 5, 12, 15, both[1:]}, {10, 5, 12, 16, both[1:]}, {10, 5, 12, 19, both[1:]}, {10, 5, 12, 20, nil}, {10, 5, 12, 21, nil},
		{10, 5, 12, 0, both}, {10, 5, 12, -1, both}, {10, 5, 12, math.MinInt64, both}, {10, 5, 12, math.MaxInt64, nil}, {10, 5, 12, 1 << 40, nil},
		{4, 4, 9, 11, spans(8, 12)}, {4, 4, 9, 12, nil},
		{3, 1, last, last, ends}, {3, 1, last, 1 << 40, nil},
		{3, 1, last - 1, last, spans(last-2, 1<<40, last-1, 1<<40)},
		{4, 5, 9, 0, nil}, {0, 0, 9, 0, nil}, {17, 1, 9, 0, nil}, {10, 5, -1, 0, nil}, {10, 5, -1, -5, nil}, {10, 5, 1 << 40, 0, nil},
	}
	for _, c := range cases {
		if got := Open(c.size, c.slide, c.t, c.mark); !slices.Equal(got, c.want) {
			t.Errorf("Open(%d, %d, %d, %d) = %v, want %v", c.size, c.slide, c.t, c.mark, got, c.want)
		}
	}
}

// marksFor are marks about t and about the ends of windows that contain it.
func marksFor(t int64, windows []api.Window) []int64 {
	l := []int64{math.MinInt64, -1, 0, t - 1, t, t + 1, 1<<40 - 1, 1 << 40, math.MaxInt64}
	for _, w := range windows {
		l = append(l, w.Hi-1, w.Hi, w.Hi+1)
	}
	return l
}

func TestP5_2OpenAsDefined(t *testing.T) {
	for _, p := range pairs() {
		for _, at := range times(p) {
			all := holding(p, at)
			for _, mark := range marksFor(at, all) {
				var want []api.Window
				for _, w := range all {
					if w.Hi > mark {
						want = append(want, w)
					}
				}
				if got := Open(p.size, p.slide, at, mark); !slices.Equal(got, want) {
					t.Fatalf("Open(%d, %d, %d, %d) = %v, want %v", p.size, p.slide, at, mark, got, want)
				}
			}
		}
	}
}

// multiples counts them among the size numbers that end with last; last is at least size - 1.
func multiples(size, slide, last int64) int {
	n := 0
	for i := last - last%slide; i > last-size; i -= slide {
		n++
	}
	return n
}

func TestP5_3HowMany(t *testing.T) {
	for _, p := range pairs() {
		for _, at := range times(p) {
			if !p.valid || at < p.size-1 || at >= 1<<40 {
				continue
			}
			got, quotient := len(Of(p.size, p.slide, at)), int(p.size/p.slide)
			if got != multiples(p.size, p.slide, at) || got != quotient && got != quotient+1 {
				t.Fatalf("%d windows of %d, one each %d, contain %d", got, p.size, p.slide, at)
			}
		}
	}
}

func TestP5_3ExactlyOne(t *testing.T) {
	for _, size := range []int64{1, 2, 3, 7, 10, 1000, 1<<20 - 1, 1 << 20} {
		for _, at := range times(pair{size, size, true}) {
			if at < 0 || at >= 1<<40 {
				continue
			}
			if l := Of(size, size, at); len(l) != 1 || l[0].Lo > at || l[0].Hi <= at {
				t.Errorf("Of(%d, %d, %d) = %v, want one window that contains the time", size, size, at, l)
			}
		}
	}
}

func TestP5_3OpenAtItsTimes(t *testing.T) {
	for _, p := range pairs() {
		for _, at := range times(p) {
			l := Of(p.size, p.slide, at)
			if !slices.Equal(Open(p.size, p.slide, at, at), l) {
				t.Fatalf("Open(%d, %d, %d, %d) lacks some of %v", p.size, p.slide, at, at, l)
			}
			for _, w := range l {
				if Closed(w, at) {
					t.Fatalf("%v contains %d and is closed then", w, at)
				}
			}
		}
	}
}

// Rules R1 and R4: what was answered is nobody else's, and a later call answers the same.
func TestP5_1AnswersAreNew(t *testing.T) {
	first, open := Of(10, 5, 12), Open(10, 5, 12, 0)
	clear(first)
	clear(open)
	want := spans(5, 15, 10, 20)
	if got := Of(10, 5, 12); !slices.Equal(got, want) {
		t.Errorf("the second answer of Of is %v", got)
	}
	if got := Open(10, 5, 12, 0); !slices.Equal(got, want) {
		t.Errorf("the second answer of Open is %v", got)
	}
}
