package loop

import (
	"math"
	"math/big"
	"slices"
	"strconv"
	"strings"
	"testing"

	"clepsydra/api"
)

const (
	least    = math.MinInt64
	greatest = math.MaxInt64
)

func val(v int64) api.Event { return api.Event{Key: "a", At: 7, Val: v} }

// vals are the numbers near 0, and those near each power of two, on both sides of 0, up to both ends.
func vals() []int64 {
	l := []int64{least, least + 1, least + 2, greatest, greatest - 1}
	for v := int64(-70); v <= 70; v++ {
		l = append(l, v)
	}
	for i := range 63 {
		for d := int64(-1); d <= 1; d++ {
			l = append(l, 1<<i+d, -(1<<i + d))
		}
	}
	return append(l, 3_000_000_007, -3_000_000_007, 123456789012345678, -123456789012345678)
}

func limits() []int64 {
	return []int64{least, -1 << 32, -100, -1, 0, 1, 2, 3, 10, 100, 1<<31 - 1, 1 << 31, 1 << 32, 1<<32 + 1, 1<<62 - 1, 1 << 62, 1<<62 + 1, greatest - 1, greatest}
}

func fuels() []int {
	return []int{least, -1 << 32, -41, -1, 0, 1, 2, 3, 39, 40, 41, 42, 63, 64, 1 << 8, 1<<8 + 1, 1 << 32, 1<<32 + 1, greatest}
}

// halfOf is the chapter's half in numbers without end.
func halfOf(v int64) int64 {
	return new(big.Int).Quo(big.NewInt(v), big.NewInt(2)).Int64()
}

// small is the chapter's 'not greater than limit', in numbers without end.
func small(v, limit int64) bool {
	amount := new(big.Int).Abs(big.NewInt(v))
	return amount.Cmp(big.NewInt(max(limit, 0))) <= 0
}

// fuelOf is how often the chapter has an event iterate at most.
func fuelOf(fuel int) int {
	switch {
	case fuel < 0:
		return 0
	case fuel > 40:
		return 40
	}
	return fuel
}

// left is the Val by which the chapter has an event leave, and how many times it has iterated.
func left(v, limit int64, fuel int) (int64, int) {
	n := 0
	for !small(v, limit) && n < fuelOf(fuel) {
		v = halfOf(v)
		n++
	}
	return v, n
}

func TestP12_1Half(t *testing.T) {
	for _, v := range vals() {
		if got, want := Half(v), halfOf(v); got != want {
			t.Errorf("Half(%d) = %d, want %d", v, got, want)
		}
	}
}

func TestP12_1HalfByHand(t *testing.T) {
	for _, c := range [][2]int64{{0, 0}, {1, 0}, {-1, 0}, {2, 1}, {-2, -1}, {3, 1}, {-3, -1}, {5, 2}, {-5, -2}, {least, -1 << 62}, {least + 1, -1<<62 + 1}, {greatest, 1<<62 - 1}, {1<<32 + 1, 1 << 31}} {
		if got := Half(c[0]); got != c[1] {
			t.Errorf("Half(%d) = %d, want %d", c[0], got, c[1])
		}
	}
}

func TestP12_1Run(t *testing.T) {
	for _, v := range vals() {
		for _, limit := range limits() {
			for _, fuel := range fuels() {
				want, times := left(v, limit, fuel)
				if e, n := Run(val(v), limit, fuel); e != val(want) || n != times {
					t.Fatalf("Run(%d, %d, %d) = %v, %d, want %d, %d", v, limit, fuel, e, n, want, times)
				}
			}
		}
	}
}

// A limit on either side of the amounts that a value comes to tells 'greater' from 'not greater'.
func TestP12_1RunAroundTheLimit(t *testing.T) {
	for _, v := range vals() {
		for at := v; at != 0; at = halfOf(at) {
			for d := int64(-1); d <= 1; d++ {
				// These wrap around where at is the least number: the limit is below 0 then, or the greatest one.
				limit := max(at, -at) + d
				want, times := left(v, limit, 40)
				if e, n := Run(val(v), limit, 40); e != val(want) || n != times {
					t.Fatalf("Run(%d, %d, 40) = %v, %d, want %d, %d", v, limit, e, n, want, times)
				}
			}
		}
	}
}

func TestP12_1RunByHand(t *testing.T) {
	cases := []struct {
		v, limit int64
		fuel     int
		want     int64
		n        int
	}{
		{20, 3, 9, 2, 3},
		{20, 3, 1, 10, 1},
		{-3, 3, 9, -3, 0},
		{3, 3, 9, 3, 0},
		{4, 3, 9, 2, 1},
		{-4, 3, 9, -2, 1},
		{-20, 3, 9, -2, 3},
		{20, 3, 3, 2, 3},
		{20, 3, 2, 5, 2},
		{20, 3, 0, 20, 0},
		{20, 3, -1, 20, 0},
		{20, 3, least, 20, 0},
		{1, 0, 9, 0, 1},
		{-1, 0, 9, 0, 1},
		{0, 0, 9, 0, 0},
		{0, -5, 9, 0, 0},
		{5, -5, 9, 0, 3},
		{5, least, 9, 0, 3},
		{greatest, 0, 40, 1<<23 - 1, 40},
		{greatest, 0, 41, 1<<23 - 1, 40},
		{greatest, 0, greatest, 1<<23 - 1, 40},
		{greatest, 0, 39, 1<<24 - 1, 39},
		{1 << 40, 0, 40, 1, 40},
		{1<<40 - 1, 0, 40, 0, 40},
		{greatest, greatest, 40, greatest, 0},
		{greatest, greatest - 1, 40, 1<<62 - 1, 1},
		// The amount of the least number is greater than every limit.
		{least, greatest, 40, -1 << 62, 1},
		{least + 1, greatest, 40, least + 1, 0},
		{least, greatest, 0, least, 0},
		{least, 0, 40, -1 << 23, 40},
		{least, least, 1, -1 << 62, 1},
	}
	for _, c := range cases {
		if e, n := Run(val(c.v), c.limit, c.fuel); e != val(c.want) || n != c.n {
			t.Errorf("Run(%d, %d, %d) = %v, %d, want %d, %d", c.v, c.limit, c.fuel, e, n, c.want, c.n)
		}
	}
}

// others have keys and times of any kind, of which an event that leaves keeps both.
func others() []api.Event {
	var l []api.Event
	for _, key := range []string{"", "a", "\x00", "\xff\xfe", "é", strings.Repeat("k", 16), strings.Repeat("k", 17), strings.Repeat("x", 5000)} {
		for _, at := range []int64{least, -1, 0, 1, 5, 1<<40 - 1, 1 << 40, greatest} {
			l = append(l, api.Event{Key: key, At: at})
		}
	}
	return l
}

func TestP12_1RunKeepsKeyAndTime(t *testing.T) {
	for _, e := range others() {
		for _, v := range []int64{least, -21, 0, 3, 20, greatest} {
			want := e
			var times int
			e.Val = v
			want.Val, times = left(v, 3, 9)
			if got, n := Run(e, 3, 9); got != want || n != times {
				t.Errorf("Run(%v, 3, 9) = %v, %d, want %v, %d", e, got, n, want, times)
			}
		}
	}
}

func put(t *testing.T, q *Queue, l ...api.Event) {
	t.Helper()
	for _, e := range l {
		before := q.Len()
		if err := q.Put(e); err != api.OK || q.Len() != before+1 {
			t.Fatalf("Put of %v to %d events = %d, and has %d then", e, before, err, q.Len())
		}
	}
}

// goesOn takes a Step in which an event iterates, or in which there is none.
func goesOn(t *testing.T, q *Queue) {
	t.Helper()
	before := q.Len()
	if e, is := q.Step(); is || e != (api.Event{}) || q.Len() != before {
		t.Fatalf("Step of %d events = %v, %t, and leaves %d", before, e, is, q.Len())
	}
}

// goes takes a Step in which an event leaves.
func goes(t *testing.T, q *Queue, want api.Event) {
	t.Helper()
	before := q.Len()
	if e, is := q.Step(); !is || e != want || q.Len() != before-1 {
		t.Fatalf("Step of %d events = %v, %t, and leaves %d, want %v", before, e, is, q.Len(), want)
	}
}

// empty tells where a Queue has events; it asks Step more than once, and leaves none.
func empty(t *testing.T, q *Queue) {
	t.Helper()
	for range 3 {
		if q.Len() != 0 {
			t.Fatalf("Len is %d where there are no events", q.Len())
		}
		goesOn(t, q)
	}
}

func TestP12_2New(t *testing.T) {
	for _, limit := range limits() {
		for _, fuel := range fuels() {
			q := New(limit, fuel)
			if q == nil {
				t.Fatalf("New(%d, %d) answers no Queue", limit, fuel)
			}
			empty(t, q)
		}
	}
}

func TestP12_2ByHand(t *testing.T) {
	q := New(3, 9)
	put(t, q, val(5))
	goesOn(t, q)
	goes(t, q, val(2))
	empty(t, q)
}

// One after the other iterates and becomes the last one; who leaves makes place at the head.
func TestP12_2StepsInOrder(t *testing.T) {
	q := New(3, 2)
	a, b, c := api.Event{Key: "a", At: 1, Val: 20}, api.Event{Key: "b", At: 2, Val: 3}, api.Event{Key: "c", At: 3, Val: -7}
	put(t, q, a, b, c)
	goesOn(t, q) // a: 10
	goes(t, q, b)
	goesOn(t, q) // c: -3
	put(t, q, b)
	goesOn(t, q) // a: 5, its fuel is used up
	goes(t, q, api.Event{Key: "c", At: 3, Val: -3})
	goes(t, q, b)
	goes(t, q, api.Event{Key: "a", At: 1, Val: 5})
	empty(t, q)
}

// An event alone leaves in the Step behind those in which it iterates.
func TestP12_2Alone(t *testing.T) {
	for _, v := range vals() {
		for _, limit := range limits() {
			for _, fuel := range fuels() {
				want, times := left(v, limit, fuel)
				q := New(limit, fuel)
				put(t, q, val(v))
				for range times {
					goesOn(t, q)
				}
				goes(t, q, val(want))
				goesOn(t, q)
			}
		}
	}
}

// An event that is zero is told from none by the answer's bool alone.
func TestP12_2ZeroEvent(t *testing.T) {
	for _, limit := range limits() {
		q := New(limit, 5)
		put(t, q, api.Event{}, api.Event{})
		goes(t, q, api.Event{})
		goes(t, q, api.Event{})
		empty(t, q)
	}
}

func TestP12_2KeysAndTimesStay(t *testing.T) {
	for _, e := range others() {
		q := New(0, 40)
		for _, v := range []int64{5, 0, -1} {
			e.Val = v
			put(t, q, e)
		}
		e.Val = 0
		goesOn(t, q) // 5 becomes 2
		goes(t, q, e)
		goesOn(t, q) // -1 becomes 0
		goesOn(t, q) // 2 becomes 1
		goes(t, q, e)
		goesOn(t, q) // 1 becomes 0
		goes(t, q, e)
		empty(t, q)
	}
}

// no is a Queue that may take nothing.
func no(t *testing.T, q *Queue) {
	t.Helper()
	before := q.Len()
	for _, e := range []api.Event{val(5), val(0), {}} {
		if err := q.Put(e); err != api.ErrFull || q.Len() != before {
			t.Fatalf("Put to %d events = %d, and has %d then", before, err, q.Len())
		}
	}
}

// numbered are events of different keys.
func numbered(from, n int, v int64) []api.Event {
	var l []api.Event
	for i := from; i < from+n; i++ {
		l = append(l, api.Event{Key: "k" + strconv.Itoa(i), At: int64(i), Val: v})
	}
	return l
}

func TestP12_2Full(t *testing.T) {
	q := New(0, 1)
	l := numbered(0, 16, 8)
	put(t, q, l...)
	no(t, q)
	// A Queue in which each event iterates is full as before.
	for range l {
		goesOn(t, q)
		no(t, q)
	}
	later := numbered(100, 16, 0)
	for i, e := range l {
		e.Val = 4
		goes(t, q, e)
		put(t, q, later[i])
		no(t, q)
	}
	for _, e := range later {
		goes(t, q, e)
	}
	empty(t, q)
	put(t, q, l...)
	no(t, q)
}

// However far a Queue has gone, it takes 16 and gives them out in order.
func TestP12_2FullFromEachPlace(t *testing.T) {
	for gone := range 40 {
		q := New(0, 0)
		for _, e := range numbered(1000, gone, 3) {
			put(t, q, e)
			goes(t, q, e)
		}
		l := numbered(0, 16, 9)
		put(t, q, l...)
		no(t, q)
		for _, e := range l {
			goes(t, q, e)
		}
		empty(t, q)
	}
}

func TestP12_2NilQueue(t *testing.T) {
	var q *Queue
	for range 20 {
		empty(t, q)
		no(t, q)
	}
	if q != nil || New(3, 9).Len() != 0 {
		t.Error("a nil Queue keeps events")
	}
}

// trips is the chapter's Queue as a list: each event with its iterations.
type trips struct {
	limit  int64
	fuel   int
	events []api.Event
	times  []int
}

func (l *trips) put(e api.Event) api.Errno {
	if len(l.events) == 16 {
		return api.ErrFull
	}
	l.events, l.times = append(l.events, e), append(l.times, 0)
	return api.OK
}

func (l *trips) step() (api.Event, bool) {
	if len(l.events) == 0 {
		return api.Event{}, false
	}
	e, n := l.events[0], l.times[0]
	l.events, l.times = slices.Clone(l.events[1:]), slices.Clone(l.times[1:])
	if small(e.Val, l.limit) || n == fuelOf(l.fuel) {
		return e, true
	}
	e.Val = halfOf(e.Val)
	l.events, l.times = append(l.events, e), append(l.times, n+1)
	return api.Event{}, false
}

// steps are numbers that follow each other by a rule, below a bound.
func steps(seed uint32) func(bound int) int {
	return func(bound int) int {
		seed = seed*1664525 + 1013904223
		return int(seed>>8) % bound
	}
}

// do takes one call with a Queue and with the list of what it has.
func do(t *testing.T, q *Queue, l *trips, puts int, next func(int) int) {
	t.Helper()
	if next(10) < puts {
		values := vals()
		e := api.Event{Key: "k" + strconv.Itoa(next(5)), At: int64(next(9)), Val: values[next(len(values))]}
		if got, want := q.Put(e), l.put(e); got != want {
			t.Fatalf("Put(%v) = %d, want %d", e, got, want)
		}
	} else {
		got, is := q.Step()
		if want, wanted := l.step(); got != want || is != wanted {
			t.Fatalf("Step = %v, %t, want %v, %t", got, is, want, wanted)
		}
	}
	if q.Len() != len(l.events) {
		t.Fatalf("Len is %d, want %d", q.Len(), len(l.events))
	}
}

// Calls in many orders, to several Queues by turns, answer as lists do: none of them affects another one.
func TestP12_2Turns(t *testing.T) {
	for seed := range uint32(60) {
		next := steps(seed)
		var queues []*Queue
		var lists []*trips
		for range 3 {
			limit, fuel := limits()[next(len(limits()))], fuels()[next(len(fuels()))]
			queues = append(queues, New(limit, fuel))
			lists = append(lists, &trips{limit: limit, fuel: fuel})
		}
		for i := range 3000 {
			k := next(3)
			// Times of many Puts fill the Queues, and times of few empty them.
			puts := []int{7, 1, 4}[i/500%3]
			do(t, queues[k], lists[k], puts, next)
		}
	}
}

func TestP12_2TwoQueues(t *testing.T) {
	a, b := New(3, 9), New(0, 0)
	put(t, a, val(20), val(1))
	empty(t, b)
	put(t, b, numbered(0, 16, 20)...)
	no(t, b)
	goesOn(t, a)
	goes(t, a, val(1))
	for _, e := range numbered(0, 16, 20) {
		goes(t, b, e)
	}
	goesOn(t, a)
	goesOn(t, a)
	goes(t, a, val(2))
	empty(t, a)
	empty(t, b)
}

// drain takes as many Steps as P12.3 names, and answers what leaves.
func drain(q *Queue, fuel int) []api.Event {
	var l []api.Event
	for range q.Len() * (fuelOf(fuel) + 1) {
		if e, is := q.Step(); is {
			l = append(l, e)
		}
	}
	return l
}

// byKey puts events in an order in which those of two lists can be held against each other.
func byKey(l []api.Event) []api.Event {
	l = slices.Clone(l)
	slices.SortFunc(l, func(a, b api.Event) int { return strings.Compare(a.Key, b.Key) })
	return l
}

func TestP12_3EachLeaves(t *testing.T) {
	values := vals()
	for i, limit := range limits() {
		for k, fuel := range fuels() {
			for n := range 17 {
				q := New(limit, fuel)
				var want []api.Event
				for j, e := range numbered(0, n, 0) {
					e.Val = values[(i*131+k*17+n*7+j*29)%len(values)]
					put(t, q, e)
					out, times := Run(e, limit, fuel)
					if times > fuelOf(fuel) || times < 0 {
						t.Fatalf("Run(%v, %d, %d) iterates %d times", e, limit, fuel, times)
					}
					want = append(want, out)
				}
				if got := drain(q, fuel); !slices.Equal(byKey(got), byKey(want)) {
					t.Fatalf("limit %d, fuel %d: what leaves is %v, want %v", limit, fuel, got, want)
				}
				empty(t, q)
			}
		}
	}
}

// The bound of P12.3 is met where each event uses up its fuel: the last one leaves in the last Step.
func TestP12_3LastStep(t *testing.T) {
	for _, fuel := range fuels() {
		q := New(0, fuel)
		put(t, q, numbered(0, 16, greatest)...)
		for range 16 * fuelOf(fuel) {
			goesOn(t, q)
		}
		for _, e := range numbered(0, 16, greatest>>fuelOf(fuel)) {
			goes(t, q, e)
		}
		empty(t, q)
	}
}

// Events that are put while others iterate leave too, each once, as Run has them leave.
func TestP12_3PutOnTheWay(t *testing.T) {
	for _, fuel := range fuels() {
		for _, limit := range limits() {
			q := New(limit, fuel)
			var got, want []api.Event
			for i, e := range numbered(0, 60, 0) {
				e.Val = int64(i*i*i*7919 - 1<<20)
				for q.Put(e) == api.ErrFull {
					if x, is := q.Step(); is {
						got = append(got, x)
					}
				}
				out, _ := Run(e, limit, fuel)
				want = append(want, out)
				if x, is := q.Step(); is {
					got = append(got, x)
				}
			}
			got = append(got, drain(q, fuel)...)
			if !slices.Equal(byKey(got), byKey(want)) {
				t.Fatalf("limit %d, fuel %d: what leaves is %v, want %v", limit, fuel, got, want)
			}
			empty(t, q)
		}
	}
}

// What is gone is not kept: the places of a Queue without events are as they were at first.
func TestP12_2NothingIsKept(t *testing.T) {
	q := New(3, 9)
	for range 5 {
		put(t, q, numbered(0, 11, 20)...)
		if n := len(drain(q, 9)); n != 11 {
			t.Fatalf("%d events leave of 11", n)
		}
		for _, x := range q.trips.places {
			if x != (trip{}) {
				t.Errorf("a Queue without events keeps %v", x)
			}
		}
	}
}

// R1: Run keeps nothing, and a Queue's answers hang on its own calls alone.
func TestR1SameAgain(t *testing.T) {
	for _, v := range vals() {
		first, n := Run(val(v), 3, 9)
		q := New(0, 40)
		put(t, q, val(v), val(-v))
		drain(q, 40)
		if again, m := Run(val(v), 3, 9); again != first || m != n {
			t.Errorf("Run(%d, 3, 9) = %v, %d, and then %v, %d", v, first, n, again, m)
		}
	}
}
