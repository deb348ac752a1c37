package pane

import (
	"math"
	"slices"
	"strconv"
	"strings"
	"testing"

	"clepsydra/api"
	"clepsydra/fold"
)

const (
	least    = math.MinInt64
	greatest = math.MaxInt64
	final    = 1 << 40
)

func kinds() []int { return []int{1, 2, 3, 4, 5} }

func wrongKinds() []int {
	return []int{math.MinInt, -1 << 32, -5, -1, 0, 6, 7, 1<<8 + 2, 1<<16 + 3, 1<<32 + 1, math.MaxInt}
}

// of is a pane whose accumulator no fold has of one value, so that it shows where it was made anew.
func of(key string, lo, hi, n int64) api.Pane {
	return api.Pane{Window: api.Window{Lo: lo, Hi: hi}, Key: key, Acc: api.Acc{N: n, A: 40 + n, B: 50 - n}}
}

func in(w api.Window, key string, a api.Acc) api.Pane { return api.Pane{Window: w, Key: key, Acc: a} }

// before is the chapter's order of panes, written apart from the package.
func before(p, q api.Pane) bool {
	if p.Hi != q.Hi {
		return p.Hi < q.Hi
	}
	if p.Lo != q.Lo {
		return p.Lo < q.Lo
	}
	for i := 0; i < len(p.Key) && i < len(q.Key); i++ {
		if p.Key[i] != q.Key[i] {
			return p.Key[i] < q.Key[i]
		}
	}
	return len(p.Key) < len(q.Key)
}

func same(p, q api.Pane) bool { return p.Window == q.Window && p.Key == q.Key }

// inOrder sorts by taking the first one out again and again, as the chapter's order says.
func inOrder(l []api.Pane) []api.Pane {
	var sorted []api.Pane
	for _, p := range l {
		at := 0
		for at < len(sorted) && before(sorted[at], p) {
			at++
		}
		sorted = slices.Insert(sorted, at, p)
	}
	return sorted
}

// places are keys and windows whose ends, starts and keys are equal, near, and far; their bytes go up to the last one.
func places() []api.Pane {
	var l []api.Pane
	for _, w := range []api.Window{{Lo: 0, Hi: 1}, {Lo: 0, Hi: 10}, {Lo: 5, Hi: 10}, {Lo: 9, Hi: 10}, {Lo: 0, Hi: 11}, {Lo: 5, Hi: 1 << 33}, {Lo: 1 << 32, Hi: 1 << 33}, {Lo: 0, Hi: final}, {Lo: final - 1, Hi: final}} {
		for _, key := range []string{"\x00", "A", "a", "a\x00", "aa", "ab", "b", "z\xff", "\x80", "é", "\xff", strings.Repeat("a", 16), strings.Repeat("\xff", 16)} {
			l = append(l, of(key, w.Lo, w.Hi, int64(len(l)%7+1)))
		}
	}
	return l
}

// many are n valid panes, five keys a window, of windows that all end together.
func many(n int) []api.Pane {
	var l []api.Pane
	for i := range n {
		l = append(l, of(strconv.Itoa(100000+i%5), int64(i/5), 1<<20, 1))
	}
	return l
}

// wrongPanes have something each that may not be, most of them one thing alone.
func wrongPanes() []api.Pane {
	return []api.Pane{
		{}, of("", 0, 10, 1), of(strings.Repeat("a", 17), 0, 10, 1), of(strings.Repeat("é", 9), 0, 10, 1), of(strings.Repeat("a", 256+1), 0, 10, 1),
		of("a", -1, 10, 1), of("a", least, 10, 1), of("a", -10, 0, 1), of("a", 0, 0, 1), of("a", 10, 10, 1), of("a", 11, 10, 1), of("a", greatest, 10, 1), of("a", 0, least, 1),
		of("a", 0, final+1, 1), of("a", final, final+1, 1), of("a", final, final, 1), of("a", 0, greatest, 1), of("a", -5, -4, 1),
		of("a", 0, 10, 0), of("a", 0, 10, -1), of("a", 0, 10, least),
	}
}

// wrongLists are not valid, though some of their panes are.
func wrongLists() [][]api.Pane {
	a, b := of("a", 0, 10, 1), of("b", 0, 10, 1)
	l := [][]api.Pane{
		{b, a}, {a, a}, {a, of("a", 0, 10, 2)}, {a, b, b}, {a, b, a}, {of("a", 5, 10, 1), a}, {of("a", 5, 10, 1), b}, {of("a", 0, 11, 1), a},
		{of("a", 0, 11, 1), of("b", 5, 10, 1)}, {of("aa", 0, 10, 1), a}, {of("\xff", 0, 10, 1), a}, {a, of("A", 0, 10, 1)}, many(2001), many(2002), many(5000),
	}
	for _, p := range wrongPanes() {
		l = append(l, []api.Pane{p}, inOrder([]api.Pane{p, of("k", 0, 3, 1), of("k", 1, final, 1)}))
	}
	last := many(2000)
	last[1999].Acc.N = 0
	twice := many(2000)
	twice[1999] = twice[1998]
	return append(l, last, twice)
}

// rightLists are valid, empty ones and full ones among them.
func rightLists() [][]api.Pane {
	all := inOrder(places())
	l := [][]api.Pane{nil, {}, all, all[:1], all[len(all)-1:], all[3:40], all[30:], many(1), many(2), many(1999), many(2000)}
	var even, odd []api.Pane
	for i, p := range all {
		if i%2 == 0 {
			even = append(even, p)
		} else {
			odd = append(odd, p)
		}
	}
	return append(l, even, odd, even[10:20], odd[:31])
}

func TestP7_1Right(t *testing.T) {
	for i, l := range rightLists() {
		if !Right(l) {
			t.Errorf("Right is false of list %d of %d panes", i, len(l))
		}
	}
	for i, l := range wrongLists() {
		if Right(l) {
			t.Errorf("Right is true of wrong list %d of %d panes", i, len(l))
		}
	}
}

func TestP7_1RightOfOne(t *testing.T) {
	for _, p := range []api.Pane{
		of("a", 0, 1, 1), of("a", 0, 10, 1), of("a", 9, 10, 1), of(strings.Repeat("a", 16), 0, 10, 1), of(strings.Repeat("é", 8), 0, 10, 1), of("\x00", 0, 10, 1), of("\xff", 0, 10, 1),
		of("a", 0, final, 1), of("a", final-1, final, 1), of("a", 0, 10, 2), of("a", 0, 10, greatest),
		{Window: api.Window{Lo: 0, Hi: 10}, Key: "a", Acc: api.Acc{N: 1, A: least, B: greatest}}, {Window: api.Window{Lo: 0, Hi: 10}, Key: "a", Acc: api.Acc{N: 1, A: greatest, B: least}},
	} {
		if !Right([]api.Pane{p}) {
			t.Errorf("Right is false of %v", p)
		}
	}
	for _, p := range wrongPanes() {
		if Right([]api.Pane{p}) {
			t.Errorf("Right is true of %v", p)
		}
	}
}

func TestP7_1RightOfPairs(t *testing.T) {
	for _, p := range places() {
		for _, q := range places() {
			if Right([]api.Pane{p, q}) != before(p, q) {
				t.Fatalf("Right is %t of %v and %v", !before(p, q), p, q)
			}
		}
	}
}

// added is what P7.1 says of Add, written apart from the package; fold's calls are those of the chapter's words.
func added(l []api.Pane, kind int, key string, w api.Window, v int64) ([]api.Pane, api.Errno) {
	fresh := api.Pane{Window: w, Key: key, Acc: fold.One(kind, v)}
	if !Right(l) || !fold.Right(kind) || !Right([]api.Pane{fresh}) {
		return nil, api.ErrArg
	}
	var sum []api.Pane
	there := false
	for _, p := range l {
		if same(p, fresh) {
			if p.Acc.N == greatest {
				return nil, api.ErrFull
			}
			there, p.Acc = true, fold.Join(kind, p.Acc, fresh.Acc)
		}
		sum = append(sum, p)
	}
	if there {
		return sum, api.OK
	}
	if len(sum) == 2000 {
		return nil, api.ErrFull
	}
	return inOrder(append(sum, fresh)), api.OK
}

func add(t *testing.T, l []api.Pane, kind int, p api.Pane, v int64) []api.Pane {
	t.Helper()
	sum, err := Add(l, kind, p.Key, p.Window, v)
	if err != api.OK {
		t.Fatalf("Add(%d panes, %d, %q, %v, %d) answers the error %d", len(l), kind, p.Key, p.Window, v, err)
	}
	return sum
}

func TestP7_1Add(t *testing.T) {
	w, later := api.Window{Lo: 0, Hi: 10}, api.Window{Lo: 5, Hi: 15}
	cases := []struct {
		kind int
		l    []api.Pane
		key  string
		w    api.Window
		v    int64
		want []api.Pane
	}{
		{api.Sum, nil, "a", w, 5, []api.Pane{in(w, "a", api.Acc{N: 1, A: 5})}},
		{api.Sum, []api.Pane{in(w, "a", api.Acc{N: 1, A: 5})}, "a", w, 2, []api.Pane{in(w, "a", api.Acc{N: 2, A: 7})}},
		{api.Sum, []api.Pane{in(w, "a", api.Acc{N: 1, A: 5})}, "b", w, 2, []api.Pane{in(w, "a", api.Acc{N: 1, A: 5}), in(w, "b", api.Acc{N: 1, A: 2})}},
		{api.Sum, []api.Pane{in(w, "b", api.Acc{N: 1, A: 5})}, "a", w, 2, []api.Pane{in(w, "a", api.Acc{N: 1, A: 2}), in(w, "b", api.Acc{N: 1, A: 5})}},
		{api.Sum, []api.Pane{in(later, "a", api.Acc{N: 1, A: 5})}, "b", w, 2, []api.Pane{in(w, "b", api.Acc{N: 1, A: 2}), in(later, "a", api.Acc{N: 1, A: 5})}},
		{api.Sum, []api.Pane{in(w, "a", api.Acc{N: 1, A: greatest})}, "a", w, 1, []api.Pane{in(w, "a", api.Acc{N: 2, A: least})}},
		{api.Count, []api.Pane{in(w, "a", api.Acc{N: 1})}, "a", w, 9, []api.Pane{in(w, "a", api.Acc{N: 2})}},
		{api.Least, []api.Pane{in(w, "a", api.Acc{N: 3, A: 4})}, "a", w, -9, []api.Pane{in(w, "a", api.Acc{N: 4, A: -9})}},
		{api.Greatest, []api.Pane{in(w, "a", api.Acc{N: 3, A: 4})}, "a", w, -9, []api.Pane{in(w, "a", api.Acc{N: 4, A: 4})}},
		{api.Spread, []api.Pane{in(w, "a", api.Acc{N: 3, A: 4, B: 6})}, "a", w, 9, []api.Pane{in(w, "a", api.Acc{N: 4, A: 4, B: 9})}},
		{api.Spread, nil, "a", w, -9, []api.Pane{in(w, "a", api.Acc{N: 1, A: -9, B: -9})}},
		{api.Count, []api.Pane{in(w, "a", api.Acc{N: greatest - 1})}, "a", w, 9, []api.Pane{in(w, "a", api.Acc{N: greatest})}},
		{api.Count, []api.Pane{in(w, "a", api.Acc{N: greatest})}, "b", w, 9, []api.Pane{in(w, "a", api.Acc{N: greatest}), in(w, "b", api.Acc{N: 1})}},
	}
	for _, c := range cases {
		got, err := Add(c.l, c.kind, c.key, c.w, c.v)
		if err != api.OK || !slices.Equal(got, c.want) {
			t.Errorf("Add(%v, %d, %q, %v, %d) = %v, %d, want %v", c.l, c.kind, c.key, c.w, c.v, got, err, c.want)
		}
	}
}

func TestP7_1AddAsDefined(t *testing.T) {
	for i, l := range rightLists() {
		for _, kind := range []int{1, 2, 5} {
			for _, p := range append(places()[:30], of("100003", 7, 1<<20, 1), of("100002", 399, 1<<20, 1), of("1000020", 399, 1<<20, 1), of("k", 3, 8, 1)) {
				got, err := Add(l, kind, p.Key, p.Window, -8)
				want, wantErr := added(l, kind, p.Key, p.Window, -8)
				if err != wantErr || !slices.Equal(got, want) {
					t.Fatalf("Add(list %d, %d, %q, %v, -8) = %d panes, %d, want %d panes, %d", i, kind, p.Key, p.Window, len(got), err, len(want), wantErr)
				}
			}
		}
	}
}

// A value for each of the panes that there are finds its own one.
func TestP7_1AddFindsEach(t *testing.T) {
	for _, l := range [][]api.Pane{inOrder(places()), many(2000)[600:700], many(31), many(32)} {
		for i, p := range l {
			got := add(t, l, api.Spread, p, 77)
			want := slices.Clone(l)
			want[i].Acc = fold.Join(api.Spread, p.Acc, fold.One(api.Spread, 77))
			if !slices.Equal(got, want) {
				t.Fatalf("Add to pane %d of %d made other panes of it", i, len(l))
			}
		}
	}
}

func TestP7_1AddErrors(t *testing.T) {
	full, w := many(2000), api.Window{Lo: 0, Hi: 10}
	brim := many(2000)
	brim[1234].Acc.N = greatest
	most := []api.Pane{of("a", 0, 10, greatest)}
	cases := []struct {
		name string
		l    []api.Pane
		kind int
		p    api.Pane
		want api.Errno
	}{
		{"one more of a full list", full, api.Sum, of("a", 0, 10, 1), api.ErrFull},
		{"a pane of a full list", full, api.Sum, full[1999], api.OK},
		{"one more of 1999", full[:1999], api.Sum, full[1999], api.OK},
		{"one whose N is the last one", most, api.Sum, most[0], api.ErrFull},
		{"the same in a full list", brim, api.Sum, brim[1234], api.ErrFull},
		{"another one of that list", brim, api.Sum, brim[1233], api.OK},
		{"no fold, and full", full, 0, of("a", 0, 10, 1), api.ErrArg},
		{"no fold, and the last N", most, 6, most[0], api.ErrArg},
		{"no key, and full", full, api.Sum, of("", 0, 10, 1), api.ErrArg},
		{"a window beyond the last time, and full", full, api.Sum, of("a", 0, final+1, 1), api.ErrArg},
		{"too many panes", many(2001), api.Sum, many(2001)[0], api.ErrArg},
	}
	for _, c := range cases {
		got, err := Add(c.l, c.kind, c.p.Key, c.p.Window, 5)
		if err != c.want || err != api.OK && len(got) > 0 {
			t.Errorf("%s: %d panes and the error %d, want %d", c.name, len(got), err, c.want)
		}
	}
	for _, kind := range wrongKinds() {
		if got, err := Add(nil, kind, "a", w, 5); err != api.ErrArg || len(got) > 0 {
			t.Errorf("Add with the fold %d = %v, %d", kind, got, err)
		}
	}
	for i, l := range wrongLists() {
		if got, err := Add(l, api.Sum, "k", api.Window{Lo: 0, Hi: 3}, 5); err != api.ErrArg || len(got) > 0 {
			t.Errorf("Add to wrong list %d = %d panes, %d", i, len(got), err)
		}
	}
}

func TestP7_1AddOfWrongPlaces(t *testing.T) {
	for _, p := range wrongPanes() {
		if p.Acc.N < 1 && p.Key != "" {
			continue
		}
		for _, l := range [][]api.Pane{nil, {of("a", 0, 10, 1)}, many(2000)} {
			if got, err := Add(l, api.Sum, p.Key, p.Window, 5); err != api.ErrArg || len(got) > 0 {
				t.Errorf("Add(%d panes, %q, %v) = %v, %d", len(l), p.Key, p.Window, got, err)
			}
		}
	}
}

func TestP7_2Due(t *testing.T) {
	a, b, c, d := of("z", 0, 10, 1), of("a", 5, 10, 1), of("a", 0, 15, 1), of("a", 20, 30, 1)
	l := []api.Pane{a, b, c, d}
	cases := []struct {
		mark int64
		due  int
	}{
		{least, 0}, {-1, 0}, {0, 0}, {5, 0}, {9, 0}, {10, 2}, {11, 2}, {14, 2}, {15, 3}, {16, 3}, {20, 3}, {29, 3}, {30, 4}, {31, 4}, {1<<32 + 1, 4}, {final, 4}, {greatest, 4},
	}
	for _, x := range cases {
		due, others := Due(l, x.mark)
		if !slices.Equal(due, l[:x.due]) || !slices.Equal(others, l[x.due:]) {
			t.Errorf("Due at %d: %v and %v", x.mark, due, others)
		}
	}
}

func TestP7_2DueAsDefined(t *testing.T) {
	marks := []int64{least, -1 << 40, -1, 0, 1, 2, 9, 10, 11, 12, 1<<20 - 1, 1 << 20, 1<<20 + 1, 1<<33 - 1, 1 << 33, 1<<33 + 1, final - 1, final, final + 1, greatest}
	for i, l := range rightLists() {
		for _, mark := range marks {
			var closed, open []api.Pane
			for _, p := range l {
				if p.Hi <= mark {
					closed = append(closed, p)
				} else {
					open = append(open, p)
				}
			}
			if due, others := Due(l, mark); !slices.Equal(due, closed) || !slices.Equal(others, open) {
				t.Errorf("Due(list %d, %d): %d and %d panes, want %d and %d", i, mark, len(due), len(others), len(closed), len(open))
			}
		}
	}
}

func TestP7_2WrongLists(t *testing.T) {
	for i, l := range wrongLists() {
		for _, mark := range []int64{least, -1, 0, 10, 12, final, greatest} {
			if due, others := Due(l, mark); len(due) > 0 || len(others) > 0 {
				t.Errorf("Due(wrong list %d, %d): %d and %d panes", i, mark, len(due), len(others))
			}
		}
	}
}

// joined is what P7.3 says of lists and a fold that may be, written apart from the package.
func joined(kind int, a, b []api.Pane) ([]api.Pane, api.Errno) {
	all := slices.Clone(a)
	for _, q := range b {
		i := slices.IndexFunc(all, func(p api.Pane) bool { return same(p, q) })
		if i < 0 {
			all = append(all, q)
			continue
		}
		if q.Acc.N > greatest-all[i].Acc.N {
			return nil, api.ErrFull
		}
		all[i].Acc = fold.Join(kind, all[i].Acc, q.Acc)
	}
	if len(all) > 2000 {
		return nil, api.ErrFull
	}
	return inOrder(all), api.OK
}

func TestP7_3Merge(t *testing.T) {
	w, later := api.Window{Lo: 0, Hi: 10}, api.Window{Lo: 5, Hi: 15}
	first := []api.Pane{in(w, "a", api.Acc{N: 2, A: 7}), in(w, "c", api.Acc{N: 1, A: 1, B: 9}), in(later, "a", api.Acc{N: 3, A: -4})}
	second := []api.Pane{in(w, "a", api.Acc{N: 1, A: 5}), in(w, "b", api.Acc{N: 4, A: 8, B: 3}), in(later, "a", api.Acc{N: 1, A: 4}), in(later, "b", api.Acc{N: 1, A: 2})}
	sum := []api.Pane{in(w, "a", api.Acc{N: 3, A: 12}), second[1], first[1], in(later, "a", api.Acc{N: 4}), second[3]}
	smallest := []api.Pane{in(w, "a", api.Acc{N: 3, A: 5}), second[1], first[1], in(later, "a", api.Acc{N: 4, A: -4}), second[3]}
	cases := []struct {
		kind       int
		a, b, want []api.Pane
	}{
		{api.Sum, first, second, sum}, {api.Sum, second, first, sum}, {api.Least, first, second, smallest}, {api.Least, second, first, smallest},
		{api.Sum, first, nil, first}, {api.Sum, nil, second, second}, {api.Count, nil, nil, nil}, {api.Count, []api.Pane{}, nil, nil},
		{api.Sum, first[:1], second[1:2], []api.Pane{first[0], second[1]}}, {api.Sum, second[1:2], first[:1], []api.Pane{first[0], second[1]}},
	}
	for _, c := range cases {
		got, err := Merge(c.kind, c.a, c.b)
		if err != api.OK || !slices.Equal(got, c.want) {
			t.Errorf("Merge(%d, %v, %v) = %v, %d, want %v", c.kind, c.a, c.b, got, err, c.want)
		}
	}
}

func TestP7_3MergeAsDefined(t *testing.T) {
	var small [][]api.Pane
	for _, l := range rightLists() {
		if len(l) < 200 {
			small = append(small, l)
		}
	}
	for i, a := range small {
		for k, b := range small {
			for _, kind := range kinds() {
				got, err := Merge(kind, a, b)
				want, wantErr := joined(kind, a, b)
				if err != wantErr || !slices.Equal(got, want) {
					t.Errorf("Merge(%d, list %d, list %d) = %v, %d, want %v, %d", kind, i, k, got, err, want, wantErr)
				}
			}
		}
	}
}

func TestP7_3MergeFull(t *testing.T) {
	full := many(2001)
	a, near, brim := of("a", 0, 10, 1), of("a", 0, 10, greatest-1), of("a", 0, 10, greatest)
	cases := []struct {
		name string
		a, b []api.Pane
		size int
		want api.Errno
	}{
		{"2000 in two parts", full[:1000], full[1000:2000], 2000, api.OK},
		{"2001 in two parts", full[:1000], full[1000:], 0, api.ErrFull},
		{"parts that overlap", full[:1500], full[500:2000], 2000, api.OK},
		{"2001 in parts that overlap", full[:1501], full[500:], 0, api.ErrFull},
		{"twice the same", full[:2000], full[:2000], 2000, api.OK},
		{"all but one the same", full[:2000], full[1:], 0, api.ErrFull},
		{"two full ones", full[:2000], many(4000)[2000:], 0, api.ErrFull},
		{"one ahead of a full one", full[1:], full[:1], 0, api.ErrFull},
		{"one behind a full one", full[:2000], full[2000:], 0, api.ErrFull},
		{"a full one and none", full[:2000], nil, 2000, api.OK},
		{"none and a full one", nil, full[1:], 2000, api.OK},
		{"Ns up to the last one", []api.Pane{near}, []api.Pane{a}, 1, api.OK},
		{"Ns beyond the last one", []api.Pane{brim}, []api.Pane{a}, 0, api.ErrFull},
		{"Ns far beyond it", []api.Pane{brim}, []api.Pane{brim}, 0, api.ErrFull},
		{"Ns halfway beyond it", []api.Pane{of("a", 0, 10, 1<<62)}, []api.Pane{of("a", 0, 10, 1<<62)}, 0, api.ErrFull},
		{"the last N alone", []api.Pane{brim}, []api.Pane{of("b", 0, 10, 1)}, 2, api.OK},
	}
	for _, c := range cases {
		for _, kind := range kinds() {
			for _, turned := range []bool{false, true} {
				a, b := c.a, c.b
				if turned {
					a, b = b, a
				}
				got, err := Merge(kind, a, b)
				if err != c.want || len(got) != c.size {
					t.Errorf("%s, fold %d: %d panes and the error %d, want %d and %d", c.name, kind, len(got), err, c.size, c.want)
				}
				if err == api.OK && !Right(got) {
					t.Errorf("%s, fold %d: the panes are not valid", c.name, kind)
				}
			}
		}
	}
}

func TestP7_3MergeErrors(t *testing.T) {
	right := [][]api.Pane{nil, {of("a", 0, 10, 1)}, {of("a", 0, 10, greatest)}, many(2000)}
	for _, r := range right {
		for i, l := range wrongLists() {
			if got, err := Merge(api.Sum, l, r); err != api.ErrArg || len(got) > 0 {
				t.Errorf("Merge(wrong list %d, %d panes) = %d panes, %d", i, len(r), len(got), err)
			}
			if got, err := Merge(api.Sum, r, l); err != api.ErrArg || len(got) > 0 {
				t.Errorf("Merge(%d panes, wrong list %d) = %d panes, %d", len(r), i, len(got), err)
			}
		}
		for _, kind := range wrongKinds() {
			for _, other := range right {
				if got, err := Merge(kind, r, other); err != api.ErrArg || len(got) > 0 {
					t.Errorf("Merge(%d, %d panes, %d panes) = %d panes, %d", kind, len(r), len(other), len(got), err)
				}
			}
		}
	}
}

func TestP7_4Results(t *testing.T) {
	w, later := api.Window{Lo: 0, Hi: 10}, api.Window{Lo: 5, Hi: 15}
	l := []api.Pane{in(w, "a", api.Acc{N: 2, A: 7, B: 9}), in(w, "b", api.Acc{N: greatest, A: least, B: 1}), in(later, "a", api.Acc{N: 1, A: -3, B: -3})}
	cases := []struct {
		kind int
		vals [3]int64
	}{
		{api.Count, [3]int64{2, greatest, 1}}, {api.Sum, [3]int64{7, least, -3}}, {api.Least, [3]int64{7, least, -3}}, {api.Greatest, [3]int64{7, least, -3}}, {api.Spread, [3]int64{2, least + 1, 0}},
	}
	for _, c := range cases {
		want := []api.Result{{Window: w, Key: "a", N: 2, Val: c.vals[0]}, {Window: w, Key: "b", N: greatest, Val: c.vals[1]}, {Window: later, Key: "a", N: 1, Val: c.vals[2]}}
		if got := Results(c.kind, l); !slices.Equal(got, want) {
			t.Errorf("Results(%d) = %v, want %v", c.kind, got, want)
		}
	}
}

func TestP7_4ResultsOfAny(t *testing.T) {
	for i, l := range rightLists() {
		for _, kind := range kinds() {
			got := Results(kind, l)
			if len(got) != len(l) {
				t.Fatalf("%d results of list %d of %d panes", len(got), i, len(l))
			}
			for k, p := range l {
				if got[k] != (api.Result{Window: p.Window, Key: p.Key, N: p.Acc.N, Val: fold.Val(kind, p.Acc)}) {
					t.Fatalf("fold %d of %v: %v", kind, p, got[k])
				}
			}
		}
	}
}

func TestP7_4WrongArguments(t *testing.T) {
	for i, l := range wrongLists() {
		for _, kind := range kinds() {
			if got := Results(kind, l); len(got) > 0 {
				t.Errorf("Results(%d, wrong list %d) = %d results", kind, i, len(got))
			}
		}
	}
	for _, l := range rightLists() {
		for _, kind := range wrongKinds() {
			if got := Results(kind, l); len(got) > 0 {
				t.Errorf("Results(%d, %d panes) = %d results", kind, len(l), len(got))
			}
		}
	}
}

// entry is a value for a place.
type entry struct {
	at api.Pane
	v  int64
}

// entries have several values a place, at the ends of the numbers too, and places of one value.
func entries() []entry {
	var l []entry
	for i, p := range places() {
		for k := range i%4 + 1 {
			l = append(l, entry{p, []int64{5, -2, greatest, least, 0, -9, 1 << 40}[(3*i+k)%7]})
		}
	}
	return l
}

// gathered are the panes of entries by the values alone: those of a place are folded together.
func gathered(kind int, l []entry) []api.Pane {
	values := map[string][]int64{}
	var all []api.Pane
	name := func(p api.Pane) string {
		return strconv.FormatInt(p.Lo, 10) + " " + strconv.FormatInt(p.Hi, 10) + " " + p.Key
	}
	for _, e := range l {
		if len(values[name(e.at)]) == 0 {
			all = append(all, e.at)
		}
		values[name(e.at)] = append(values[name(e.at)], e.v)
	}
	for i, p := range all {
		all[i].Acc = fold.All(kind, values[name(p)])
	}
	return inOrder(all)
}

func addAll(t *testing.T, kind int, l []entry) []api.Pane {
	t.Helper()
	var panes []api.Pane
	for _, e := range l {
		panes = add(t, panes, kind, e.at, e.v)
	}
	return panes
}

// orders are the entries as they are, the other way round, and mixed in two ways.
func orders(l []entry) [][]entry {
	turned := slices.Clone(l)
	slices.Reverse(turned)
	mixed := make([]entry, len(l))
	// Steps of a prime number that is greater than the length meet each entry once.
	for i := range l {
		mixed[i] = l[i*1009%len(l)]
	}
	halves := slices.Concat(mixed[len(l)/2:], mixed[:len(l)/2])
	return [][]entry{l, turned, mixed, halves}
}

func TestP7_5AnyOrder(t *testing.T) {
	for _, kind := range kinds() {
		want := gathered(kind, entries())
		for i, l := range orders(entries()) {
			if got := addAll(t, kind, l); !slices.Equal(got, want) {
				t.Errorf("fold %d: the panes of the order %d are others", kind, i)
			}
		}
	}
}

func TestP7_5MergeOfTwoLists(t *testing.T) {
	for _, kind := range kinds() {
		want := gathered(kind, entries())
		for _, l := range orders(entries()) {
			for _, cut := range []int{0, 1, 7, len(l) / 2, len(l) - 1, len(l)} {
				a, b := addAll(t, kind, l[:cut]), addAll(t, kind, l[cut:])
				if got, err := Merge(kind, a, b); err != api.OK || !slices.Equal(got, want) {
					t.Errorf("fold %d, cut at %d: the panes are others, or the error %d", kind, cut, err)
				}
			}
		}
	}
}

// Rule R4: lists that are passed stay as they were, and so do answers after later calls.
func TestP7_1ListsStay(t *testing.T) {
	l, m := inOrder(places()), many(50)
	wasL, wasM := slices.Clone(l), slices.Clone(m)
	// Room behind a list's end must not be written to either.
	roomy := append(make([]api.Pane, 0, 200), l[:60]...)
	behind := roomy[:61]
	sum, _ := Add(l, api.Sum, l[5].Key, l[5].Window, 3)
	wasSum := slices.Clone(sum)
	Add(sum, api.Sum, "k", api.Window{Lo: 2, Hi: 9}, 3)
	Add(sum, api.Sum, sum[7].Key, sum[7].Window, 3)
	Add(roomy, api.Sum, l[80].Key, l[80].Window, 3)
	due, others := Due(roomy, 10)
	Merge(api.Sum, l, m)
	Merge(api.Sum, m, l)
	Merge(api.Sum, roomy, m)
	Merge(api.Sum, l, l)
	Results(api.Sum, l)
	if !slices.Equal(l, wasL) || !slices.Equal(m, wasM) || !slices.Equal(sum, wasSum) {
		t.Error("a list is another one after the calls")
	}
	if behind[60] != (api.Pane{}) || !slices.Equal(roomy, wasL[:60]) || len(due)+len(others) != 60 {
		t.Error("a list with room behind it was written to")
	}
}

// What was answered is nobody else's: changing it, or adding behind it, changes no argument and no other answer.
func TestP7_1AnswersAreNew(t *testing.T) {
	l, m := many(20), many(40)[20:]
	wasL, wasM := slices.Clone(l), slices.Clone(m)
	for _, a := range [][]api.Pane{nil, l} {
		for _, b := range [][]api.Pane{nil, m} {
			got, _ := Merge(api.Sum, a, b)
			clear(got[:cap(got)])
		}
	}
	sum, _ := Add(l, api.Sum, l[3].Key, l[3].Window, 1)
	clear(sum)
	for _, mark := range []int64{0, 1<<20 - 1, 1 << 20} {
		due, others := Due(l, mark)
		wasOthers := slices.Clone(others)
		clear(append(due, api.Pane{}))
		clear(due[:cap(due)])
		if !slices.Equal(others, wasOthers) {
			t.Error("the two lists of Due share their memory")
		}
		clear(others[:cap(others)])
	}
	clear(Results(api.Sum, l))
	if !slices.Equal(l, wasL) || !slices.Equal(m, wasM) {
		t.Error("an answer shares its memory with an argument")
	}
}
