package group

import (
	"math"
	"slices"
	"strconv"
	"strings"
	"testing"

	"clepsydra/api"
	"clepsydra/fold"
	"clepsydra/vlq"
)

const (
	least    = math.MinInt64
	greatest = math.MaxInt64
	final    = 1 << 40
)

// judged is a value with what the chapter says of it.
type judged[T any] struct {
	value T
	valid bool
}

func jobOf(size, slide int64, kind int) api.Job { return api.Job{Size: size, Slide: slide, Fold: kind} }

func eventOf(key string, at, val int64) api.Event { return api.Event{Key: key, At: at, Val: val} }

func paneOf(key string, lo, hi, n, a, b int64) api.Pane {
	return api.Pane{Window: api.Window{Lo: lo, Hi: hi}, Key: key, Acc: api.Acc{N: n, A: a, B: b}}
}

func groupOf(no int, mark int64, panes ...api.Pane) api.Group {
	return api.Group{No: no, Mark: mark, Panes: panes}
}

func same(g, h api.Group) bool {
	return g.No == h.No && g.Mark == h.Mark && slices.Equal(g.Panes, h.Panes)
}

func none(g api.Group) bool { return same(g, api.Group{}) }

// many are n valid panes, five keys a window, that all end together.
func many(n int) []api.Pane {
	var l []api.Pane
	for i := range n {
		l = append(l, paneOf(strconv.Itoa(100000+i%5), int64(i/5), 1<<20, 1, int64(i), -int64(i)))
	}
	return l
}

func judgedJobs() []judged[api.Job] {
	l := []judged[api.Job]{{api.Job{}, false}}
	sizes := []struct {
		size, slide int64
		valid       bool
	}{
		{10, 5, true}, {10, 10, true}, {10, 1, true}, {1, 1, true}, {16, 1, true}, {17, 1, false}, {33, 2, false}, {32, 2, true}, {10, 3, true},
		{1 << 20, 1 << 20, true}, {1 << 20, 1 << 16, true}, {1 << 20, 1<<16 - 1, false}, {1<<20 + 1, 1 << 20, false}, {1<<20 + 1, 1<<20 + 1, false},
		{10, 11, false}, {4, 5, false}, {10, 0, false}, {0, 0, false}, {10, -5, false}, {-10, -10, false}, {0, 1, false}, {-1, 1, false},
		{greatest, greatest, false}, {least, least, false}, {least, greatest, false}, {greatest, least, false}, {16, 1<<60 + 1, false},
	}
	kinds := []judged[int]{
		{1, true}, {2, true}, {3, true}, {4, true}, {5, true}, {0, false}, {6, false}, {-1, false}, {1<<8 + 1, false}, {1<<32 + 2, false}, {math.MinInt, false}, {math.MaxInt, false},
	}
	for _, s := range sizes {
		for _, k := range kinds {
			l = append(l, judged[api.Job]{jobOf(s.size, s.slide, k.value), s.valid && k.valid})
		}
	}
	return l
}

func validJobs() []api.Job {
	var l []api.Job
	for _, j := range judgedJobs() {
		if j.valid {
			l = append(l, j.value)
		}
	}
	return l
}

func wrongJobs() []api.Job {
	var l []api.Job
	for _, j := range judgedJobs() {
		if !j.valid {
			l = append(l, j.value)
		}
	}
	return l
}

func judgedNos() []judged[int] {
	return []judged[int]{
		{0, true}, {1, true}, {7, true}, {31, true}, {32, false}, {33, false}, {-1, false}, {-32, false}, {1 << 8, false}, {1 << 32, false}, {1<<32 + 5, false}, {math.MinInt, false}, {math.MaxInt, false},
	}
}

func judgedMarks() []judged[int64] {
	return []judged[int64]{
		{0, true}, {1, true}, {9, true}, {10, true}, {11, true}, {127, true}, {128, true}, {300, true}, {1<<20 - 1, true}, {1 << 20, true}, {final - 1, true}, {final, true},
		{-1, false}, {final + 1, false}, {1 << 41, false}, {least, false}, {greatest, false},
	}
}

// judgedPanes are lists with what chapter 7 says of them; those that are not valid are so by one thing each.
func judgedPanes() []judged[[]api.Pane] {
	a, b := paneOf("a", 0, 10, 1, 2, 3), paneOf("b", 0, 10, greatest, least, greatest)
	long := strings.Repeat("ü", 8)
	l := []judged[[]api.Pane]{
		{nil, true}, {[]api.Pane{}, true}, {[]api.Pane{a}, true}, {[]api.Pane{a, b}, true}, {[]api.Pane{a, b, paneOf("a", 5, 10, 1, 0, 0), paneOf("a", 0, 11, 2, 0, 0)}, true},
		{[]api.Pane{paneOf(long, 5, 300, 128, -64, 64)}, true}, {[]api.Pane{paneOf("\x00", 0, 1, 1, 0, 0), paneOf("\xff", final-1, final, 1, 0, 0)}, true},
		{[]api.Pane{paneOf("a", 0, final, 1, 0, 0), paneOf("a", 1, final, 1, 0, 0)}, true}, {many(1999), true}, {many(2000), true}, {many(2001), false}, {many(4000), false},
		{[]api.Pane{b, a}, false}, {[]api.Pane{a, a}, false}, {[]api.Pane{paneOf("a", 0, 11, 1, 0, 0), a}, false}, {[]api.Pane{paneOf("a", 5, 10, 1, 0, 0), b}, false},
	}
	for _, p := range []api.Pane{
		{}, paneOf("", 0, 10, 1, 0, 0), paneOf(long+"x", 0, 10, 1, 0, 0), paneOf("a", -1, 10, 1, 0, 0), paneOf("a", 10, 10, 1, 0, 0), paneOf("a", 11, 10, 1, 0, 0),
		paneOf("a", 0, final+1, 1, 0, 0), paneOf("a", least, greatest, 1, 0, 0), paneOf("a", 0, 10, 0, 0, 0), paneOf("a", 0, 10, -1, 0, 0), paneOf("a", 0, 10, least, 0, 0),
	} {
		l = append(l, judged[[]api.Pane]{[]api.Pane{p}, false}, judged[[]api.Pane]{[]api.Pane{p, paneOf("k", 1, final, 1, 0, 0)}, false})
	}
	return l
}

// judgedGroups are put together from what is known of the parts; of panes it asks each one by itself whether it is closed.
func judgedGroups() []judged[api.Group] {
	var l []judged[api.Group]
	for _, no := range judgedNos() {
		for _, m := range judgedMarks() {
			for _, p := range judgedPanes() {
				if len(p.value) > 100 && no.value != 0 && no.value != 31 && no.value != 32 {
					continue
				}
				valid := no.valid && m.valid && p.valid
				for _, one := range p.value {
					valid = valid && one.Hi > m.value
				}
				l = append(l, judged[api.Group]{api.Group{No: no.value, Mark: m.value, Panes: p.value}, valid})
			}
		}
	}
	return l
}

func validGroups() []api.Group {
	var l []api.Group
	for _, g := range judgedGroups() {
		if g.valid {
			l = append(l, g.value)
		}
	}
	return l
}

// wrongGroups are few of them, for calls with much beside the group.
func wrongGroups() []api.Group {
	a := paneOf("a", 0, 10, 1, 0, 0)
	return []api.Group{
		groupOf(-1, 0), groupOf(32, 0), groupOf(math.MaxInt, 0, a), groupOf(0, -1), groupOf(0, final+1), groupOf(3, least, a), groupOf(3, 10, a), groupOf(3, final, a),
		groupOf(3, 0, a, a), groupOf(3, 0, api.Pane{}), groupOf(3, 0, many(2001)...), groupOf(0, 11, a, paneOf("a", 5, 15, 1, 0, 0)),
	}
}

func wrongEvents() []api.Event {
	return []api.Event{
		{}, eventOf("", 5, 1), eventOf(strings.Repeat("a", 17), 5, 1), eventOf("a", -1, 1), eventOf("a", final, 1), eventOf("a", final+1, 1), eventOf("a", least, 1), eventOf("a", greatest, 1),
	}
}

func TestP9_1Job(t *testing.T) {
	others := []api.Job{
		{}, {Groups: 3, Fuel: 2, Limit: 5, Delay: 7, Idle: 9}, {Groups: -1, Fuel: -1, Limit: -1, Delay: -1, Idle: -1}, {Groups: 33, Fuel: 41, Limit: greatest, Delay: final + 1, Idle: greatest},
	}
	for _, j := range judgedJobs() {
		for _, o := range others {
			// What a job has beside its windows and its fold is not looked at.
			o.Size, o.Slide, o.Fold = j.value.Size, j.value.Slide, j.value.Fold
			if got := Job(o); got != j.valid {
				t.Errorf("Job(%+v) = %v, want %v", o, got, j.valid)
			}
		}
	}
}

func TestP9_1Right(t *testing.T) {
	for _, g := range judgedGroups() {
		if got := Right(g.value); got != g.valid {
			t.Errorf("Right of group %d at %d with %d panes = %v, want %v", g.value.No, g.value.Mark, len(g.value.Panes), got, g.valid)
		}
	}
	for _, g := range wrongGroups() {
		if Right(g) {
			t.Errorf("Right of group %d at %d with %d panes = true", g.No, g.Mark, len(g.Panes))
		}
	}
}

func TestP9_1Closed(t *testing.T) {
	l := []api.Pane{paneOf("a", 0, 10, 1, 0, 0), paneOf("b", 0, 10, 1, 0, 0), paneOf("a", 5, 15, 1, 0, 0), paneOf("a", 5, final, 1, 0, 0)}
	for first, until := range []int64{10, 10, 15, final} {
		for _, mark := range []int64{0, 5, 9, 10, 14, 15, 16, final - 1, final} {
			if got, want := Right(groupOf(4, mark, l[first:]...)), mark < until; got != want {
				t.Errorf("Right at %d of panes of which the first ends at %d = %v, want %v", mark, until, got, want)
			}
		}
	}
}

func take(t *testing.T, j api.Job, g api.Group, e api.Event) (api.Group, int) {
	t.Helper()
	got, n, err := Take(j, g, e)
	if err != api.OK {
		t.Fatalf("Take(%+v, group at %d with %d panes, %v): error %d", j, g.Mark, len(g.Panes), e, err)
	}
	return got, n
}

func advance(t *testing.T, j api.Job, g api.Group, mark int64) (api.Group, []api.Result) {
	t.Helper()
	got, l, err := Advance(j, g, mark)
	if err != api.OK {
		t.Fatalf("Advance(%+v, group at %d with %d panes, %d): error %d", j, g.Mark, len(g.Panes), mark, err)
	}
	return got, l
}

// The chapter's example, step by step.
func TestP9_1Example(t *testing.T) {
	j := jobOf(10, 5, api.Sum)
	g, n := take(t, j, api.Group{}, eventOf("a", 7, 5))
	if want := groupOf(0, 0, paneOf("a", 0, 10, 1, 5, 0), paneOf("a", 5, 15, 1, 5, 0)); n != 2 || !same(g, want) {
		t.Errorf("Take at 7: %v, %d", g, n)
	}
	g, l := advance(t, j, g, 10)
	if want := []api.Result{{Window: api.Window{Lo: 0, Hi: 10}, Key: "a", N: 1, Val: 5}}; !slices.Equal(l, want) || !same(g, groupOf(0, 10, paneOf("a", 5, 15, 1, 5, 0))) {
		t.Errorf("Advance to 10: %v, %v", g, l)
	}
	g, n = take(t, j, g, eventOf("a", 7, 1))
	if want := groupOf(0, 10, paneOf("a", 5, 15, 2, 6, 0)); n != 1 || !same(g, want) {
		t.Errorf("Take at 7 once more: %v, %d", g, n)
	}
	was := g
	g, n = take(t, j, g, eventOf("a", 4, 1))
	if n != 0 || !same(g, was) {
		t.Errorf("Take at 4: %v, %d", g, n)
	}
}

// windowsOf are the windows that contain a time and are not closed at a mark, by asking each multiple of the slide that is near.
func windowsOf(j api.Job, at, mark int64) []api.Window {
	var l []api.Window
	from := max(0, at-j.Size)
	for lo := from - from%j.Slide; lo <= at; lo += j.Slide {
		if hi := min(lo+j.Size, final); at < hi && hi > mark {
			l = append(l, api.Window{Lo: lo, Hi: hi})
		}
	}
	return l
}

func before(p, q api.Pane) bool {
	if p.Hi != q.Hi {
		return p.Hi < q.Hi
	}
	if p.Lo != q.Lo {
		return p.Lo < q.Lo
	}
	return p.Key < q.Key
}

// taken is what P9.1 says of Take, by going through the panes one by one.
func taken(j api.Job, g api.Group, e api.Event) (api.Group, int) {
	windows := windowsOf(j, e.At, g.Mark)
	panes := slices.Clone(g.Panes)
	for _, w := range windows {
		p := api.Pane{Window: w, Key: e.Key, Acc: fold.One(j.Fold, e.Val)}
		at := 0
		for at < len(panes) && before(panes[at], p) {
			at++
		}
		if at < len(panes) && panes[at].Window == w && panes[at].Key == e.Key {
			panes[at].Acc = fold.Join(j.Fold, panes[at].Acc, p.Acc)
		} else {
			panes = slices.Insert(panes, at, p)
		}
	}
	return api.Group{No: g.No, Mark: g.Mark, Panes: panes}, len(windows)
}

// manyEvents have keys and times that are equal, near, and far.
func manyEvents() []api.Event {
	var l []api.Event
	vals := []int64{5, -2, greatest, least, 0, -9, 1 << 40}
	for i, at := range []int64{0, 1, 4, 5, 9, 10, 12, 14, 15, 16, 33, 7, 3, 12, 1 << 20, 1<<20 + 5, 1 << 32, final - 11, final - 10, final - 2, final - 1} {
		for k, key := range []string{"a", "b", "a\x00", "\xff", strings.Repeat("a", 16)} {
			l = append(l, eventOf(key, at, vals[(3*i+k)%len(vals)]))
		}
	}
	return l
}

func marks() []int64 {
	return []int64{0, 1, 5, 9, 10, 11, 15, 20, 1 << 20, 1<<20 + 10, final - 10, final - 1, final}
}

func TestP9_1TakeAsDefined(t *testing.T) {
	for _, j := range validJobs() {
		for i, mark := range marks() {
			g := groupOf(i, mark)
			for _, e := range manyEvents() {
				want, wantN := taken(j, g, e)
				got, n := take(t, j, g, e)
				if n != wantN || !same(got, want) {
					t.Fatalf("Take(%+v, group at %d, %v) = %v, %d, want %v, %d", j, mark, e, got, n, want, wantN)
				}
				if !Right(got) {
					t.Fatalf("Take(%+v, group at %d, %v) is not valid: %v", j, mark, e, got)
				}
				g = got
			}
		}
	}
}

// A group may have panes that are none of the job's windows, and accumulators of other folds: they stay as they are.
func TestP9_1TakeOfOtherPanes(t *testing.T) {
	g := groupOf(31, 9, paneOf("a", 0, 10, 4, 7, 9), paneOf("a", 1, 11, 2, 1, 1), paneOf("b", 5, 15, 3, 3, 3), paneOf("a", 5, 16, 1, 1, 1))
	got, n := take(t, jobOf(10, 5, api.Spread), g, eventOf("a", 6, 8))
	want := groupOf(31, 9, paneOf("a", 0, 10, 5, 7, 9), paneOf("a", 1, 11, 2, 1, 1), paneOf("a", 5, 15, 1, 8, 8), paneOf("b", 5, 15, 3, 3, 3), paneOf("a", 5, 16, 1, 1, 1))
	if n != 2 || !same(got, want) {
		t.Errorf("got %v, %d, want %v, 2", got, n, want)
	}
}

func TestP9_1TakeErrors(t *testing.T) {
	right, wrong, g, e := jobOf(10, 5, api.Sum), append(wrongGroups(), groupOf(0, 0)), groupOf(3, 7, paneOf("a", 0, 10, 1, 0, 0)), eventOf("a", 5, 1)
	check := func(j api.Job, g api.Group, e api.Event, want api.Errno) {
		t.Helper()
		if got, n, err := Take(j, g, e); err != want || n != 0 || !none(got) {
			t.Errorf("Take(%+v, group %d at %d, %v) = %v, %d, %d, want the error %d alone", j, g.No, g.Mark, e, got, n, err, want)
		}
	}
	for _, j := range wrongJobs() {
		check(j, g, e, api.ErrJob)
		for _, h := range wrong {
			check(j, h, e, api.ErrJob)
		}
		for _, f := range wrongEvents() {
			check(j, g, f, api.ErrJob)
			check(j, wrong[0], f, api.ErrJob)
		}
	}
	for _, h := range wrongGroups() {
		check(right, h, e, api.ErrArg)
		// Nor does it help that the event would be in no open window.
		check(right, h, eventOf("a", 0, 1), api.ErrArg)
		for _, f := range wrongEvents() {
			check(right, h, f, api.ErrArg)
		}
	}
	for _, f := range wrongEvents() {
		check(right, g, f, api.ErrArg)
		check(right, groupOf(0, final), f, api.ErrArg)
		// ErrArg comes ahead of ErrFull.
		check(right, groupOf(0, 0, many(2000)...), f, api.ErrArg)
	}
}

func TestP9_1TakeFull(t *testing.T) {
	j := jobOf(10, 5, api.Sum)
	first, second := paneOf("k", 0, 10, 1, 2, 0), paneOf("k", 5, 15, 1, 2, 0)
	with := func(n int, panes ...api.Pane) api.Group { return groupOf(2, 3, append(panes, many(n)...)...) }
	brim := func(p api.Pane, n int64) api.Pane {
		p.Acc.N = n
		return p
	}
	cases := []struct {
		name  string
		g     api.Group
		at    int64
		n     int
		panes int
		want  api.Errno
	}{
		{"room for both", with(1998), 7, 2, 2000, api.OK},
		{"room for one of two", with(1999), 7, 0, 0, api.ErrFull},
		{"room for none", with(2000), 7, 0, 0, api.ErrFull},
		{"room for the only one", with(1999), 4, 1, 2000, api.OK},
		{"no room for the only one", with(2000), 4, 0, 0, api.ErrFull},
		{"both are there", with(1998, first, second), 7, 2, 2000, api.OK},
		{"the first one is there, no room", with(1999, first), 7, 0, 0, api.ErrFull},
		{"the second one is there, no room", with(1999, second), 7, 0, 0, api.ErrFull},
		{"the first one is there, room", with(1998, first), 7, 2, 2000, api.OK},
		{"an N of the first one up to the last number", with(0, brim(first, greatest-1), second), 7, 2, 2, api.OK},
		{"an N of the first one beyond it", with(0, brim(first, greatest), second), 7, 0, 0, api.ErrFull},
		{"an N of the second one beyond it", with(0, first, brim(second, greatest)), 7, 0, 0, api.ErrFull},
		{"an N that is not concerned", with(0, first, brim(second, greatest)), 4, 1, 2, api.OK},
		{"a full group, and no open window", groupOf(0, 1<<20-1, many(2000)...), 7, 0, 2000, api.OK},
	}
	for _, c := range cases {
		got, n, err := Take(j, c.g, eventOf("k", c.at, 1))
		if err != c.want || n != c.n || len(got.Panes) != c.panes {
			t.Errorf("%s: %d panes, %d, %d, want %d, %d, %d", c.name, len(got.Panes), n, err, c.panes, c.n, c.want)
		}
		if err != api.OK && !none(got) {
			t.Errorf("%s: a group beside the error", c.name)
		}
	}
}

// passed is what P9.2 says of Advance, by going through the panes one by one.
func passed(j api.Job, g api.Group, mark int64) (api.Group, []api.Result) {
	if mark < 0 || mark <= g.Mark {
		return g, nil
	}
	h := api.Group{No: g.No, Mark: min(mark, final)}
	var l []api.Result
	for _, p := range g.Panes {
		if p.Hi <= h.Mark {
			l = append(l, api.Result{Window: p.Window, Key: p.Key, N: p.Acc.N, Val: fold.Val(j.Fold, p.Acc)})
		} else {
			h.Panes = append(h.Panes, p)
		}
	}
	return h, l
}

func TestP9_2Advance(t *testing.T) {
	j := jobOf(10, 5, api.Spread)
	a, b, c, d := paneOf("a", 0, 10, 2, -3, 4), paneOf("b", 0, 10, 1, 5, 5), paneOf("a", 5, 15, 3, 0, 9), paneOf("a", 5, final, 1, 1, 1)
	ra, rb := api.Result{Window: a.Window, Key: "a", N: 2, Val: 7}, api.Result{Window: b.Window, Key: "b", N: 1, Val: 0}
	rc, rd := api.Result{Window: c.Window, Key: "a", N: 3, Val: 9}, api.Result{Window: d.Window, Key: "a", N: 1, Val: 0}
	g := groupOf(31, 5, a, b, c, d)
	cases := []struct {
		mark    int64
		want    api.Group
		results []api.Result
	}{
		{least, g, nil}, {-1, g, nil}, {0, g, nil}, {4, g, nil}, {5, g, nil},
		{6, groupOf(31, 6, a, b, c, d), nil}, {9, groupOf(31, 9, a, b, c, d), nil},
		{10, groupOf(31, 10, c, d), []api.Result{ra, rb}}, {14, groupOf(31, 14, c, d), []api.Result{ra, rb}},
		{15, groupOf(31, 15, d), []api.Result{ra, rb, rc}}, {final - 1, groupOf(31, final-1, d), []api.Result{ra, rb, rc}},
		{final, groupOf(31, final), []api.Result{ra, rb, rc, rd}}, {final + 1, groupOf(31, final), []api.Result{ra, rb, rc, rd}}, {greatest, groupOf(31, final), []api.Result{ra, rb, rc, rd}},
	}
	for _, c := range cases {
		if got, l := advance(t, j, g, c.mark); !same(got, c.want) || !slices.Equal(l, c.results) {
			t.Errorf("Advance(%d) = %v, %v, want %v, %v", c.mark, got, l, c.want, c.results)
		}
	}
	for _, mark := range []int64{least, -1, 0, final - 1, final, final + 1, greatest} {
		if got, l := advance(t, j, groupOf(0, final), mark); !same(got, groupOf(0, final)) || len(l) > 0 {
			t.Errorf("Advance(%d) from the last time = %v, %v", mark, got, l)
		}
	}
}

func TestP9_2AdvanceAsDefined(t *testing.T) {
	for _, j := range validJobs() {
		g := groupOf(5, 0)
		for _, e := range manyEvents() {
			g, _ = take(t, j, g, e)
		}
		for _, first := range append(marks(), -1, least, final+1) {
			h, _ := advance(t, j, g, first)
			for _, second := range append(marks(), -1, least, final+1, greatest) {
				want, results := passed(j, h, second)
				got, l := advance(t, j, h, second)
				if !same(got, want) || !slices.Equal(l, results) || !Right(got) {
					t.Fatalf("Advance(%+v) from %d to %d = %v, %v, want %v, %v", j, h.Mark, second, got, l, want, results)
				}
			}
		}
	}
}

func TestP9_2AdvanceErrors(t *testing.T) {
	right, g := jobOf(10, 5, api.Sum), groupOf(3, 7, paneOf("a", 0, 10, 1, 0, 0))
	check := func(j api.Job, g api.Group, mark int64, want api.Errno) {
		t.Helper()
		if got, l, err := Advance(j, g, mark); err != want || len(l) > 0 || !none(got) {
			t.Errorf("Advance(%+v, group %d at %d, %d) = %v, %v, %d, want the error %d alone", j, g.No, g.Mark, mark, got, l, err, want)
		}
	}
	// A mark at which nothing would be done hides no error.
	for _, mark := range []int64{least, -1, 0, 7, 10, final, greatest} {
		for _, j := range wrongJobs() {
			check(j, g, mark, api.ErrJob)
			check(j, groupOf(32, 0), mark, api.ErrJob)
			check(j, groupOf(0, final+1), mark, api.ErrJob)
		}
		for _, h := range wrongGroups() {
			check(right, h, mark, api.ErrArg)
		}
	}
}

// digits is the word 'encoding of a number' of chapter 2, written apart from the packages.
func digits(n uint64) string {
	s := string([]byte{byte(n % 128)})
	for n /= 128; n > 0; n /= 128 {
		s = string([]byte{byte(n%128 + 128)}) + s
	}
	return s
}

func signed(n int64) string { return digits(uint64(n)<<1 ^ uint64(n>>63)) }

func text(s string) string { return digits(uint64(len(s))) + s }

func head(no, mark, count int64) string {
	return digits(uint64(no)) + digits(uint64(mark)) + digits(uint64(count))
}

func paneBytes(p api.Pane) string {
	return text(p.Key) + digits(uint64(p.Lo)) + digits(uint64(p.Hi)) + digits(uint64(p.Acc.N)) + signed(p.Acc.A) + signed(p.Acc.B)
}

// spelt is the chapter's words 'the encoding of a group', of groups that are not valid too as far as their numbers are not negative.
func spelt(g api.Group) string {
	var s strings.Builder
	s.WriteString(head(int64(g.No), g.Mark, int64(len(g.Panes))))
	for _, p := range g.Panes {
		s.WriteString(paneBytes(p))
	}
	return s.String()
}

// spells tells whether the numbers of a group can be written at all.
func spells(g api.Group) bool {
	for _, p := range g.Panes {
		if p.Lo < 0 || p.Hi < 0 || p.Acc.N < 0 {
			return false
		}
	}
	return g.No >= 0 && g.Mark >= 0 && len(g.Panes) <= 2000
}

// byHand are valid groups with bytes that were worked out from the chapter by hand.
func byHand() map[string]api.Group {
	return map[string]api.Group{
		"\x00\x00\x00":                          {},
		"\x1f\xa0\x80\x80\x80\x80\x00\x00":      {No: 31, Mark: final},
		"\x03\x82\x2c\x00":                      {No: 3, Mark: 300},
		"\x00\x07\x01\x01a\x00\x0a\x01\x0a\x00": groupOf(0, 7, paneOf("a", 0, 10, 1, 5, 0)),
		"\x01\x00\x02\x01a\x00\x0a\x02\x03\x08\x02\x00\xff\x05\x82\x2c\x81\x00\x7f\x81\x00":                                                                                 groupOf(1, 0, paneOf("a", 0, 10, 2, -2, 4), paneOf("\x00\xff", 5, 300, 128, -64, 64)),
		"\x02\x00\x01\x01b\x00\xa0\x80\x80\x80\x80\x00\xff\xff\xff\xff\xff\xff\xff\xff\x7f\x81\xff\xff\xff\xff\xff\xff\xff\xff\x7f\x81\xff\xff\xff\xff\xff\xff\xff\xff\x7e": groupOf(2, 0, paneOf("b", 0, final, greatest, least, greatest)),
	}
}

func TestP9_3Put(t *testing.T) {
	for want, g := range byHand() {
		if got, err := Put(g); got != want || err != api.OK {
			t.Errorf("Put(%v) = %x, %d, want %x", g, got, err, want)
		}
	}
	for _, g := range judgedGroups() {
		got, err := Put(g.value)
		switch {
		case g.valid && (err != api.OK || got != spelt(g.value)):
			t.Errorf("Put of group %d at %d with %d panes: %d bytes, %d", g.value.No, g.value.Mark, len(g.value.Panes), len(got), err)
		case !g.valid && (err != api.ErrArg || got != ""):
			t.Errorf("Put of group %d at %d with %d panes: %d bytes, %d, want none and ErrArg", g.value.No, g.value.Mark, len(g.value.Panes), len(got), err)
		}
	}
}

func TestP9_3Get(t *testing.T) {
	for s, want := range byHand() {
		if got, err := Get(s); !same(got, want) || err != api.OK {
			t.Errorf("Get(%x) = %v, %d, want %v", s, got, err, want)
		}
	}
	for _, g := range judgedGroups() {
		if !spells(g.value) {
			continue
		}
		got, err := Get(spelt(g.value))
		switch {
		case g.valid && (err != api.OK || !same(got, g.value)):
			t.Errorf("Get of group %d at %d with %d panes: %d panes, %d", g.value.No, g.value.Mark, len(g.value.Panes), len(got.Panes), err)
		case !g.valid && (err == api.OK || !none(got)):
			t.Errorf("Get of group %d at %d with %d panes, which is not valid: %d", g.value.No, g.value.Mark, len(g.value.Panes), err)
		}
	}
}

func checkErrors(t *testing.T, want api.Errno, inputs ...string) {
	t.Helper()
	for _, s := range inputs {
		if got, err := Get(s); !none(got) || err != want {
			t.Errorf("Get(%.30x of %d bytes) = %v, %d, want error %d", s, len(s), got, err, want)
		}
	}
}

// tooGreat is 2^63, the least number that is none; endless has no last digit that is in bounds.
const (
	tooGreat = "\x81\x80\x80\x80\x80\x80\x80\x80\x80\x00"
	endless  = "\xff\xff\xff\xff\xff\xff\xff\xff\xff\xff\xff\xff"
)

// fieldFaults puts bytes where a number is due behind what is given, and checks the errors of vlq; signed ones may be greater.
func fieldFaults(t *testing.T, behind string, signedOne bool) {
	t.Helper()
	checkErrors(t, api.ErrShort, behind, behind+"\x81", behind+"\xff\xff\xff")
	checkErrors(t, api.ErrForm, behind+"\x80", behind+"\x80\x00", behind+"\x80\x80\x01a", behind+endless, behind+"\x82\x80\x80\x80\x80\x80\x80\x80\x80\x00")
	if !signedOne {
		checkErrors(t, api.ErrForm, behind+tooGreat, behind+"\x81\x80\x80\x80\x80\x80\x80\x80\x80\x80")
	}
}

// paneFaults puts faults into each field of a pane that is due behind what is given.
func paneFaults(t *testing.T, behind string) {
	t.Helper()
	for _, fields := range []string{"", "\x01a", "\x01a\x00", "\x01a\x00\x0a"} {
		fieldFaults(t, behind+fields, false)
	}
	for _, fields := range []string{"\x01a\x00\x0a\x01", "\x01a\x00\x0a\x01\x02"} {
		fieldFaults(t, behind+fields, true)
	}
	long := strings.Repeat("x", 5000)
	checkErrors(t, api.ErrShort, behind+"\x01", behind+"\x02a", behind+"\x10abc", behind+"\xa0\x00"+long[:4095])
	checkErrors(t, api.ErrLong, behind+"\xa0\x01", behind+"\xa0\x01"+long, behind+"\xff\xff\xff\xff\xff\xff\xff\xff\x7f")
}

func TestP9_3Fields(t *testing.T) {
	for _, behind := range []string{"", "\x00", "\x00\x07"} {
		fieldFaults(t, behind, false)
	}
	one := paneBytes(paneOf("a", 0, 10, 1, 0, 0))
	paneFaults(t, head(0, 7, 1))
	paneFaults(t, head(0, 7, 2)+one)
	paneFaults(t, head(0, 7, 2000)+strings.Repeat(one, 1999))
	// A field that is read, but out of its bounds, comes behind the fault of a later field.
	fieldFaults(t, digits(32), false)
	fieldFaults(t, digits(greatest), false)
	fieldFaults(t, head(32, final+1, 1), false)
	paneFaults(t, head(32, final+1, 1))
	paneFaults(t, head(0, 7, 2)+paneBytes(api.Pane{}))
	paneFaults(t, head(0, 20, 2)+one)
	fieldFaults(t, head(0, 0, 1)+"\x00\x0a\x00\x00", true)
	// The first of several faults is told.
	checkErrors(t, api.ErrLong, head(0, 0, 1)+"\xa0\x01"+strings.Repeat("x", 4097)+"\x80")
	checkErrors(t, api.ErrForm, head(0, 0, 1)+"\x01a\x80\x81", "\x80\x81", "\x00\x80"+digits(2001))
	checkErrors(t, api.ErrShort, head(0, 0, 2)+one, head(0, 0, 2000), head(0, 0, 1))
}

func TestP9_3PanesCount(t *testing.T) {
	for _, count := range []int64{2001, 2002, 1 << 20, 1<<32 + 1, 1 << 32, greatest} {
		for _, behind := range []string{"", "\x80", "\x81", endless, "\x01a\x00\x0a\x01\x02\x00", "\xa0\x01"} {
			checkErrors(t, api.ErrArg, head(0, 7, count)+behind, head(32, final+1, count)+behind)
		}
	}
	// All of the panes are there, and nothing else is wrong.
	checkErrors(t, api.ErrArg, spelt(groupOf(0, 7, many(2001)...)))
	if got, err := Get(spelt(groupOf(0, 7, many(2000)...))); err != api.OK || len(got.Panes) != 2000 {
		t.Errorf("Get of 2000 panes: %d panes, %d", len(got.Panes), err)
	}
}

func TestP9_3LeftOver(t *testing.T) {
	for s := range byHand() {
		checkErrors(t, api.ErrForm, s+"\x00", s+"\x80", s+"\x01a\x00\x0a\x01\x0a\x00", s+s, s+strings.Repeat("x", 9000))
	}
	// Left over bytes are told ahead of a group that is not valid.
	for _, g := range wrongGroups() {
		if spells(g) {
			checkErrors(t, api.ErrForm, spelt(g)+"\x00", spelt(g)+"\x80", spelt(g)+spelt(g))
		}
	}
}

func TestP9_3NotValid(t *testing.T) {
	for _, no := range []int64{32, 33, 1 << 8, 1 << 32, 1<<32 + 1, 1<<62 + 3, greatest} {
		checkErrors(t, api.ErrArg, head(no, 0, 0), head(no, 7, 1)+paneBytes(paneOf("a", 0, 10, 1, 0, 0)))
	}
	for _, mark := range []int64{final + 1, 1 << 41, greatest} {
		checkErrors(t, api.ErrArg, head(0, mark, 0))
	}
	for _, g := range judgedGroups() {
		if !g.valid && spells(g.value) {
			checkErrors(t, api.ErrArg, spelt(g.value))
		}
	}
}

// scan is the promise's order of errors, written apart from the package: it goes through the fields by the calls of vlq, and counts them.
func scan(s string) api.Errno {
	var l [3]int64
	at, err := 0, api.OK
	for i := 0; i < 3 && err == api.OK; i++ {
		l[i], at, err = vlq.Get(s, at)
	}
	if err == api.OK && l[2] > 2000 {
		return api.ErrArg
	}
	for i := int64(0); i < 6*l[2] && err == api.OK; i++ {
		switch i % 6 {
		case 0:
			_, at, err = vlq.GetText(s, at)
		case 1, 2, 3:
			_, at, err = vlq.Get(s, at)
		default:
			_, at, err = vlq.GetSigned(s, at)
		}
	}
	if err == api.OK && at < len(s) {
		return api.ErrForm
	}
	return err
}

// checkWhatever holds for all bytes: what is read is valid, spelt and put as it stands there, and what is not has the first error that there is.
func checkWhatever(t *testing.T, s string) {
	t.Helper()
	got, err := Get(s)
	want := scan(s)
	switch {
	case want != api.OK && (err != want || !none(got)):
		t.Fatalf("Get(%x) = %v, %d, want error %d", s, got, err, want)
	case want == api.OK && err == api.OK && (!Right(got) || spelt(got) != s):
		t.Fatalf("Get(%x) = %v, which is spelt %x", s, got, spelt(got))
	case want == api.OK && err != api.OK && (err != api.ErrArg || !none(got)):
		t.Fatalf("Get(%x) = %v, %d, want ErrArg or a group", s, got, err)
	}
	if err == api.OK {
		if again, err := Put(got); again != s || err != api.OK {
			t.Fatalf("%x is read as %v, which is put as %x, %d", s, got, again, err)
		}
	}
}

func TestP9_3WhateverBytes(t *testing.T) {
	for a := range 256 {
		checkWhatever(t, string([]byte{byte(a)}))
		for b := range 256 {
			for _, c := range []string{"", "\x00", "\x01", "\x80", "\x81", "\x00\x00", "\x01\x01a\x00\x0a\x01\x02\x00", "\x02\x01a\x00\x0a\x01\x02\x00\x01b\x00\x0a\x01\x02\x00"} {
				checkWhatever(t, string([]byte{byte(a), byte(b)})+c)
			}
		}
	}
	for s := range byHand() {
		for at := range len(s) {
			checkWhatever(t, s[:at])
			checkWhatever(t, s[at:])
			for b := range 256 {
				one := string([]byte{byte(b)})
				checkWhatever(t, s[:at]+one+s[at+1:])
				checkWhatever(t, s[:at]+one+s[at:])
			}
		}
	}
}

// orders are the events as they are, the other way round, and mixed in two ways.
func orders(l []api.Event) [][]api.Event {
	turned := slices.Clone(l)
	slices.Reverse(turned)
	mixed := make([]api.Event, len(l))
	// Steps of a prime number that is greater than the length meet each event once.
	for i := range l {
		mixed[i] = l[i*1009%len(l)]
	}
	return [][]api.Event{l, turned, mixed, slices.Concat(mixed[len(l)/2:], mixed[:len(l)/2])}
}

func takeAll(t *testing.T, j api.Job, g api.Group, l []api.Event) (api.Group, int) {
	t.Helper()
	all := 0
	for _, e := range l {
		var n int
		g, n = take(t, j, g, e)
		all += n
	}
	return g, all
}

func TestP9_4AnyOrder(t *testing.T) {
	for _, j := range validJobs() {
		for _, mark := range []int64{0, 12, final - 5} {
			var first api.Group
			var count int
			var results []api.Result
			for i, l := range orders(manyEvents()) {
				g, n := takeAll(t, j, groupOf(6, mark), l)
				_, r := advance(t, j, g, final)
				if i == 0 {
					first, count, results = g, n, r
				}
				if !same(g, first) || n != count || !slices.Equal(r, results) {
					t.Fatalf("job %+v at %d: the order %d gives another group, or other results", j, mark, i)
				}
			}
		}
	}
}

func TestP9_4TwoSteps(t *testing.T) {
	for _, j := range validJobs() {
		g, _ := takeAll(t, j, groupOf(6, 0), manyEvents())
		for i, first := range marks() {
			for _, second := range append(marks()[i:], greatest) {
				once, want := advance(t, j, g, second)
				half, l := advance(t, j, g, first)
				twice, rest := advance(t, j, half, second)
				if !same(once, twice) || !slices.Equal(slices.Concat(l, rest), want) {
					t.Fatalf("job %+v: to %d and then to %d is not the same as at once", j, first, second)
				}
			}
		}
	}
}

func TestP9_4NotBelowTheMark(t *testing.T) {
	for _, j := range validJobs() {
		for _, mark := range []int64{0, 1, 7, 10, 1 << 20, final - 10, final - 1} {
			for _, at := range []int64{mark, mark + 1, mark + 9, 1<<21 + 3, final - 1} {
				if at < mark || at >= final {
					continue
				}
				want := len(windowsOf(j, at, 0))
				if g, n := take(t, j, groupOf(0, mark), eventOf("a", at, 1)); n != want || len(g.Panes) != want {
					t.Errorf("job %+v at %d: the event at %d is added to %d windows, want %d", j, mark, at, n, want)
				}
			}
		}
	}
}

func TestP9_5ReadAgain(t *testing.T) {
	for _, g := range validGroups() {
		s, err := Put(g)
		if err != api.OK {
			t.Fatalf("Put of group %d at %d with %d panes: error %d", g.No, g.Mark, len(g.Panes), err)
		}
		if got, err := Get(s); !same(got, g) || err != api.OK {
			t.Errorf("group %d at %d with %d panes is read as another one, or the error %d", g.No, g.Mark, len(g.Panes), err)
		}
		// Nothing that is cut off is a group, so no encoding is the start of another one.
		for at := range min(len(s), 300) {
			checkErrors(t, api.ErrShort, s[:at])
		}
	}
	for _, j := range validJobs() {
		g, _ := takeAll(t, j, groupOf(9, 3), manyEvents())
		s, _ := Put(g)
		if got, err := Get(s); !same(got, g) || err != api.OK || len(g.Panes) == 0 {
			t.Errorf("job %+v: a group that took events is read as another one, or the error %d", j, err)
		}
	}
}

func TestP9_5PutAgain(t *testing.T) {
	for _, behind := range []string{"", "\x00", "\x00\x00", "\x1f\x05\x01", "\x00\x09\x01\x01", "\x00\x00\x01\x01a", "\x00\x00\x01\x01a\x00", "\x00\x00\x01\x01a\x00\x0a", "\x00\x00\x01\x01a\x00\x0a\x01"} {
		for a := range 256 {
			for b := range 256 {
				for _, tail := range []string{"", "\x00", "\x00\x00", "a\x00\x0a\x01\x02\x00", "\x0a\x01\x00\x00", "\x01\x00\x00"} {
					checkWhatever(t, behind+string([]byte{byte(a), byte(b)})+tail)
				}
			}
		}
	}
}

// Rule R4: groups that are passed stay as they were, and so do answers after later calls.
func TestP9_1GroupsStay(t *testing.T) {
	j := jobOf(10, 5, api.Sum)
	g, _ := takeAll(t, j, groupOf(1, 3), manyEvents())
	// Room behind a list's end must not be written to either.
	g.Panes = slices.Grow(g.Panes, 50)
	was, behind := slices.Clone(g.Panes), g.Panes[:len(g.Panes)+50]
	later, _ := take(t, j, g, eventOf("new", 7, 1))
	wasLater := slices.Clone(later.Panes)
	take(t, j, g, eventOf("a", 7, 1))
	take(t, j, later, eventOf("new", 7, 1))
	take(t, j, g, eventOf("\xff\xff", final-1, 1))
	advance(t, j, g, 15)
	advance(t, j, later, final)
	Put(g)
	if g.Mark != 3 || !slices.Equal(g.Panes, was) || !slices.Equal(later.Panes, wasLater) {
		t.Error("a group is another one after the calls")
	}
	for _, p := range behind[len(was):] {
		if p != (api.Pane{}) {
			t.Error("a list with room behind it was written to")
		}
	}
}

// What was answered is nobody else's: changing it, or adding behind it, changes no argument.
func TestP9_1AnswersAreNew(t *testing.T) {
	j := jobOf(10, 5, api.Sum)
	g, _ := takeAll(t, j, groupOf(1, 10), manyEvents())
	was := slices.Clone(g.Panes)
	for _, e := range []api.Event{eventOf("a", 12, 1), eventOf("new", 12, 1), eventOf("a", 3, 1)} {
		got, _ := take(t, j, g, e)
		clear(got.Panes[:cap(got.Panes)])
	}
	for _, mark := range []int64{-1, 0, 10, 11, 15, final} {
		got, l := advance(t, j, g, mark)
		clear(got.Panes[:cap(got.Panes)])
		clear(l[:cap(l)])
	}
	if !slices.Equal(g.Panes, was) {
		t.Error("an answer shares its memory with an argument")
	}
}
