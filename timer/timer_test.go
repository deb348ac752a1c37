package timer

import (
	"math"
	"slices"
	"strings"
	"testing"

	"clepsydra/api"
)

const (
	least    = math.MinInt64
	greatest = math.MaxInt64
	final    = 1 << 40
)

func at(n int64, name string) api.Timer { return api.Timer{At: n, Name: name} }

// before is the chapter's order of timers, written apart from the package.
func before(t, u api.Timer) bool {
	if t.At != u.At {
		return t.At < u.At
	}
	for i := 0; i < len(t.Name) && i < len(u.Name); i++ {
		if t.Name[i] != u.Name[i] {
			return t.Name[i] < u.Name[i]
		}
	}
	return len(t.Name) < len(u.Name)
}

// inOrder puts one after the other behind those that are not after it, as the chapter's order says.
func inOrder(l []api.Timer) []api.Timer {
	var sorted []api.Timer
	for _, t := range l {
		i := len(sorted)
		for i > 0 && before(t, sorted[i-1]) {
			i--
		}
		sorted = slices.Insert(sorted, i, t)
	}
	return sorted
}

// times are near and far, below 0 and beyond the last time too; differences of some of them wrap around.
func times() []int64 {
	return []int64{least, least + 1, -1 << 32, -1, 0, 1, 4, 5, 1<<31 - 1, 1 << 31, 1 << 32, 1<<32 + 1, final - 1, final, final + 1, greatest - 1, greatest}
}

// names are equal, near and far; their bytes go up to the last one.
func names() []string {
	return []string{"", "\x00", "A", "a", "a\x00", "aa", "aaa", "ab", "b", "z\xff", "\x80", "é", "日本", "\xff", "\xff\xff", strings.Repeat("a", 300), strings.Repeat("a", 299) + "b"}
}

// every are timers of each time with each name.
func every() []api.Timer {
	var l []api.Timer
	for _, n := range times() {
		for _, name := range names() {
			l = append(l, at(n, name))
		}
	}
	return l
}

// few are timers of which some are equal, and some have a time or a name alone in common.
func few() []api.Timer {
	return []api.Timer{at(5, "b"), at(3, "c"), at(5, "a"), at(3, "c"), at(4, ""), at(5, "b"), at(-7, "z")}
}

// turns are a list as it is, in order, the other way round, and mixed in two ways.
func turns(l []api.Timer) [][]api.Timer {
	rising := inOrder(l)
	falling := slices.Clone(rising)
	slices.Reverse(falling)
	mixed := make([]api.Timer, len(l))
	// Steps of a prime number that does not divide the length meet each timer once.
	for i := range l {
		mixed[i] = l[i*1009%len(l)]
	}
	halves := slices.Concat(rising[len(l)/2:], rising[:len(l)/2])
	return [][]api.Timer{l, rising, falling, mixed, halves}
}

// permutations are all orders of a list.
func permutations(l []api.Timer) [][]api.Timer {
	if len(l) == 0 {
		return [][]api.Timer{nil}
	}
	var all [][]api.Timer
	for _, p := range permutations(l[1:]) {
		for i := range len(l) {
			all = append(all, slices.Insert(slices.Clone(p), i, l[0]))
		}
	}
	return all
}

func of(l ...api.Timer) *Heap {
	h := New()
	for _, t := range l {
		h.Push(t)
	}
	return h
}

// popAll pops until there are no timers, and looks at Len all the while.
func popAll(t *testing.T, h *Heap) []api.Timer {
	t.Helper()
	var l []api.Timer
	for n := h.Len(); n > 0; n-- {
		x, is := h.Pop()
		if !is || h.Len() != n-1 {
			t.Fatalf("Pop of %d timers = %v, %t, and leaves %d", n, x, is, h.Len())
		}
		l = append(l, x)
	}
	empty(t, h)
	return l
}

// empty tells where a Heap has timers; it asks each call, and leaves none.
func empty(t *testing.T, h *Heap) {
	t.Helper()
	if n := h.Len(); n != 0 {
		t.Errorf("Len is %d where there are no timers", n)
	}
	for range 2 {
		if x, is := h.Pop(); is || x != (api.Timer{}) {
			t.Errorf("Pop = %v, %t where there are no timers", x, is)
		}
	}
	for _, mark := range times() {
		if l := h.Due(mark); len(l) > 0 {
			t.Errorf("Due(%d) = %v where there are no timers", mark, l)
		}
	}
	for _, name := range names() {
		if n := h.Drop(name); n != 0 {
			t.Errorf("Drop(%q) = %d where there are no timers", name, n)
		}
	}
	if l := h.All(); len(l) > 0 {
		t.Errorf("All = %v where there are no timers", l)
	}
}

func TestP8_1New(t *testing.T) {
	h := New()
	if h == nil {
		t.Fatal("New answers no Heap")
	}
	empty(t, h)
	h.Push(at(5, "b"))
	if h.Len() != 1 {
		t.Errorf("Len is %d after a Push", h.Len())
	}
}

func TestP8_1PushAndPop(t *testing.T) {
	h := of(at(5, "b"), at(3, "c"), at(5, "a"))
	if h.Len() != 3 {
		t.Errorf("Len is %d of three timers", h.Len())
	}
	for _, want := range []api.Timer{at(3, "c"), at(5, "a"), at(5, "b")} {
		if x, is := h.Pop(); x != want || !is {
			t.Errorf("Pop = %v, %t, want %v", x, is, want)
		}
	}
	empty(t, h)
}

func TestP8_1FirstOfTwo(t *testing.T) {
	all := every()
	for i, x := range all {
		for k := i % 5; k < len(all); k += 5 {
			want := x
			if before(all[k], x) {
				want = all[k]
			}
			for _, h := range []*Heap{of(x, all[k]), of(all[k], x)} {
				if got, is := h.Pop(); got != want || !is {
					t.Fatalf("Pop of %v and %v = %v, %t", x, all[k], got, is)
				}
			}
		}
	}
}

func TestP8_1Equal(t *testing.T) {
	for _, x := range every() {
		h := of(x, x, x)
		if h.Len() != 3 {
			t.Errorf("Len is %d of %v three times", h.Len(), x)
		}
		if got := popAll(t, h); !slices.Equal(got, []api.Timer{x, x, x}) {
			t.Errorf("%v three times is popped as %v", x, got)
		}
	}
}

// A timer that is zero is told from none by the answer's bool alone.
func TestP8_1ZeroTimer(t *testing.T) {
	h := of(api.Timer{}, api.Timer{})
	for range 2 {
		if x, is := h.Pop(); !is || x != (api.Timer{}) {
			t.Errorf("Pop of a zero timer = %v, %t", x, is)
		}
	}
	empty(t, h)
}

// After its last timer a Heap takes timers as before.
func TestP8_1PushAgain(t *testing.T) {
	h := New()
	for i := range 5 {
		for k, x := range turns(few())[i] {
			h.Push(x)
			if h.Len() != k+1 {
				t.Fatalf("Len is %d after %d Pushes", h.Len(), k+1)
			}
		}
		if got := popAll(t, h); !slices.Equal(got, inOrder(few())) {
			t.Errorf("turn %d: popped are %v", i, got)
		}
	}
}

func TestP8_2Due(t *testing.T) {
	l := []api.Timer{at(-3, "z"), at(0, "y"), at(3, "a"), at(3, "b"), at(5, ""), at(1<<32+4, "a"), at(final, "a"), at(greatest, "a")}
	cases := []struct {
		mark int64
		due  int
	}{
		{least, 0}, {-4, 0}, {-3, 1}, {-1, 1}, {0, 2}, {2, 2}, {3, 4}, {4, 4}, {5, 5}, {6, 5}, {1 << 32, 5}, {1<<32 + 3, 5}, {1<<32 + 4, 6}, {final - 1, 6}, {final, 7}, {final + 1, 7}, {greatest - 1, 7}, {greatest, 8},
	}
	for _, c := range cases {
		for i, turn := range turns(l) {
			h := of(turn...)
			if due := h.Due(c.mark); !slices.Equal(due, l[:c.due]) || h.Len() != len(l)-c.due {
				t.Errorf("turn %d: Due(%d) = %v, and leaves %d", i, c.mark, due, h.Len())
			}
			if due := h.Due(c.mark); len(due) > 0 {
				t.Errorf("turn %d: Due(%d) has %v still", i, c.mark, due)
			}
			if others := popAll(t, h); !slices.Equal(others, l[c.due:]) {
				t.Errorf("turn %d: Due(%d) leaves %v", i, c.mark, others)
			}
		}
	}
}

// Due at the least number takes a timer of that time.
func TestP8_2DueAtTheEnds(t *testing.T) {
	h := of(at(greatest, "a"), at(least, "b"), at(least, "a"), at(least+1, "a"))
	if due := h.Due(least); !slices.Equal(due, []api.Timer{at(least, "a"), at(least, "b")}) {
		t.Errorf("Due at the least number = %v", due)
	}
	if due := h.Due(greatest); !slices.Equal(due, []api.Timer{at(least+1, "a"), at(greatest, "a")}) {
		t.Errorf("Due at the greatest number = %v", due)
	}
	empty(t, h)
}

func TestP8_2DueOfEvery(t *testing.T) {
	for i, turn := range turns(every()) {
		h := of(turn...)
		left := inOrder(turn)
		for _, mark := range times() {
			n := 0
			for n < len(left) && left[n].At <= mark {
				n++
			}
			if due := h.Due(mark); !slices.Equal(due, left[:n]) || h.Len() != len(left)-n {
				t.Errorf("turn %d: Due(%d) = %d timers, and leaves %d, want %d", i, mark, len(due), h.Len(), n)
			}
			left = left[n:]
			if !slices.Equal(h.All(), left) {
				t.Errorf("turn %d: Due(%d) leaves others than the later ones", i, mark)
			}
		}
		empty(t, h)
	}
}

func TestP8_2Drop(t *testing.T) {
	l := []api.Timer{at(1, "a"), at(2, "b"), at(2, "b"), at(3, "a"), at(3, ""), at(4, "ab"), at(5, "A"), at(6, "b\x00"), at(7, "b"), at(greatest, "a"), at(least, "a")}
	cases := []struct {
		name string
		n    int
	}{
		{"a", 4}, {"b", 3}, {"", 1}, {"ab", 1}, {"A", 1}, {"b\x00", 1}, {"c", 0}, {"aa", 0}, {"B", 0}, {" a", 0}, {"\x00", 0}, {"\xff", 0},
	}
	for _, c := range cases {
		var others []api.Timer
		for _, x := range inOrder(l) {
			if x.Name != c.name {
				others = append(others, x)
			}
		}
		for i, turn := range turns(l) {
			h := of(turn...)
			if n := h.Drop(c.name); n != c.n || h.Len() != len(l)-c.n {
				t.Errorf("turn %d: Drop(%q) = %d, and leaves %d", i, c.name, n, h.Len())
			}
			if n := h.Drop(c.name); n != 0 {
				t.Errorf("turn %d: Drop(%q) has %d still", i, c.name, n)
			}
			if got := popAll(t, h); !slices.Equal(got, others) {
				t.Errorf("turn %d: Drop(%q) leaves %v", i, c.name, got)
			}
		}
	}
}

// Drops one after the other, till there are no timers, leave the others in order.
func TestP8_2DropOfEvery(t *testing.T) {
	for i, turn := range turns(every()) {
		h := of(turn...)
		left := inOrder(turn)
		for _, name := range names() {
			left = slices.DeleteFunc(left, func(x api.Timer) bool { return x.Name == name })
			if n := h.Drop(name); n != len(times()) || h.Len() != len(left) {
				t.Errorf("turn %d: Drop(%q) = %d, and leaves %d", i, name, n, h.Len())
			}
			if !slices.Equal(h.All(), left) {
				t.Errorf("turn %d: Drop(%q) leaves others", i, name)
			}
			// A timer that comes now finds its place among those that are left.
			h.Push(at(5, name+"!"))
			if h.Drop(name+"!") != 1 || !slices.Equal(h.All(), left) {
				t.Errorf("turn %d: a timer pushed after Drop(%q) is not dropped alone", i, name)
			}
		}
		empty(t, h)
	}
}

func TestP8_2All(t *testing.T) {
	for _, l := range [][]api.Timer{nil, {at(5, "b")}, {at(5, "b"), at(5, "b")}, few(), every()} {
		for i := range 5 {
			var turn []api.Timer
			if len(l) > 0 {
				turn = turns(l)[i]
			}
			h := of(turn...)
			for range 2 {
				if got := h.All(); !slices.Equal(got, inOrder(l)) || h.Len() != len(l) {
					t.Errorf("turn %d: All of %d timers = %d timers, and leaves %d", i, len(l), len(got), h.Len())
				}
			}
			if got := popAll(t, h); !slices.Equal(got, inOrder(l)) {
				t.Errorf("turn %d: after All %d timers are popped as %d, or not in order", i, len(l), len(got))
			}
		}
	}
}

func TestP8_3NilHeap(t *testing.T) {
	var h *Heap
	empty(t, h)
	for _, x := range append(every(), api.Timer{}) {
		h.Push(x)
	}
	empty(t, h)
	if h != nil || New().Len() != 0 {
		t.Error("a nil Heap stores timers")
	}
}

func TestP8_4EachOrder(t *testing.T) {
	want := inOrder(few())
	for _, l := range permutations(few()) {
		if got := of(l...).All(); !slices.Equal(got, want) {
			t.Fatalf("All of %v = %v", l, got)
		}
		if got := popAll(t, of(l...)); !slices.Equal(got, want) {
			t.Fatalf("popped of %v are %v", l, got)
		}
		if got := of(l...).Due(greatest); !slices.Equal(got, want) {
			t.Fatalf("due of %v are %v", l, got)
		}
	}
}

func TestP8_4Every(t *testing.T) {
	twice := slices.Concat(every(), every())
	for i, turn := range turns(twice) {
		if got := popAll(t, of(turn...)); !slices.Equal(got, inOrder(twice)) {
			t.Errorf("turn %d: %d timers are popped of %d, or not in order", i, len(got), len(twice))
		}
	}
}

// steps are numbers that follow each other by a rule, below a bound.
func steps(seed uint32) func(bound int) int {
	return func(bound int) int {
		seed = seed*1664525 + 1013904223
		return int(seed>>8) % bound
	}
}

// do takes one step with a Heap and with the list of what it has, in order, and answers that list.
func do(t *testing.T, h *Heap, l []api.Timer, next func(int) int) []api.Timer {
	t.Helper()
	n, name := int64(next(20)-5), names()[next(8)]
	switch next(8) {
	case 0, 1:
		x, is := h.Pop()
		if is != (len(l) > 0) || is && x != l[0] || !is && x != (api.Timer{}) {
			t.Fatalf("Pop of %v = %v, %t", l, x, is)
		}
		l = l[min(1, len(l)):]
	case 2:
		k := 0
		for k < len(l) && l[k].At <= n-8 {
			k++
		}
		if due := h.Due(n - 8); !slices.Equal(due, l[:k]) {
			t.Fatalf("Due(%d) of %v = %v", n-8, l, due)
		}
		l = l[k:]
	case 3:
		left := slices.DeleteFunc(slices.Clone(l), func(x api.Timer) bool { return x.Name == name })
		if k := h.Drop(name); k != len(l)-len(left) {
			t.Fatalf("Drop(%q) of %v = %d", name, l, k)
		}
		l = left
	default:
		h.Push(at(n, name))
		l = inOrder(append(slices.Clone(l), at(n, name)))
	}
	if got := h.All(); !slices.Equal(got, l) || h.Len() != len(l) {
		t.Fatalf("All = %v, and Len %d, of %v", got, h.Len(), l)
	}
	return l
}

// Calls in many orders, to several Heaps by turns, answer as lists do that are kept in order: none of them affects another one.
func TestP8_4Turns(t *testing.T) {
	for seed := range uint32(40) {
		next := steps(seed)
		heaps := []*Heap{New(), New(), New()}
		lists := make([][]api.Timer, 3)
		for range 400 {
			k := next(3)
			lists[k] = do(t, heaps[k], lists[k], next)
		}
	}
}

func TestP8_4TwoHeaps(t *testing.T) {
	a, b := New(), New()
	for _, x := range few() {
		a.Push(x)
		empty(t, b)
	}
	b.Push(at(4, "b"))
	b.Push(at(3, "c"))
	if !slices.Equal(a.All(), inOrder(few())) {
		t.Error("a Push to a Heap is seen in another one")
	}
	if a.Drop("b") != 2 || len(a.Due(3)) != 3 || b.Len() != 2 {
		t.Error("Drop and Due of a Heap are seen in another one")
	}
	popAll(t, a)
	if got := popAll(t, b); !slices.Equal(got, []api.Timer{at(3, "c"), at(4, "b")}) {
		t.Errorf("popped of the second Heap are %v", got)
	}
}

// What All and Due answered is the caller's: changing it, or adding behind it, changes no Heap and no other answer.
func TestP8_4AnswersAreTheCallers(t *testing.T) {
	later := []api.Timer{at(8, "x"), at(8, "y"), at(9, "a"), at(9, "b")}
	h := of(append(few(), later...)...)
	whole := inOrder(append(few(), later...))
	all, again := h.All(), h.All()
	clear(all[:cap(all)])
	if !slices.Equal(again, whole) || !slices.Equal(h.All(), whole) {
		t.Error("changing what All answered changes the Heap or another answer")
	}
	due := h.Due(4)
	clear(due[:cap(due)])
	if !slices.Equal(h.All(), whole[4:]) || !slices.Equal(again, whole) {
		t.Error("changing what Due answered changes the Heap or another answer")
	}
	due = h.Due(greatest)
	clear(due[:cap(due)])
	empty(t, h)
	if !slices.Equal(again, whole) {
		t.Error("changing what Due answered changes another answer")
	}
}

// Later calls leave what All and Due answered as it was.
func TestP8_4AnswersStay(t *testing.T) {
	h := of(few()...)
	all := h.All()
	due := h.Due(3)
	for i := range int64(100) {
		h.Push(at(i-50, "later"))
	}
	h.Drop("b")
	h.Drop("later")
	popAll(t, h)
	h.Push(at(0, "last"))
	if !slices.Equal(all, inOrder(few())) || !slices.Equal(due, inOrder(few())[:3]) {
		t.Errorf("after later calls All's answer is %v, and Due's %v", all, due)
	}
}

// P8.1 and P8.2 set no bound on the number of timers.
func TestP8_4Many(t *testing.T) {
	const many = 60000
	h := New()
	for i := range many {
		h.Push(at(int64(i*7919%many), names()[i%7]))
	}
	if h.Len() != many {
		t.Fatalf("Len is %d of %d", h.Len(), many)
	}
	if l := h.All(); len(l) != many || l[0].At != 0 || l[many-1].At != many-1 {
		t.Errorf("All answers %d of %d timers, or not in order", len(l), many)
	}
	if l := h.Due(many/2 - 1); len(l) != many/2 || h.Len() != many/2 {
		t.Errorf("Due answers %d of %d timers, and leaves %d", len(l), many/2, h.Len())
	}
	for i := many / 2; i < many; i++ {
		if x, is := h.Pop(); !is || x.At != int64(i) {
			t.Fatalf("Pop = %v, %t, want the time %d", x, is, i)
		}
	}
	empty(t, h)
}
