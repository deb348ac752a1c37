package model

import (
	"math"
	"math/big"
	"slices"
	"strconv"
	"strings"
	"testing"

	"clepsydra/api"
)

const (
	least    = math.MinInt64
	greatest = math.MaxInt64
	final    = 1 << 40
)

// good is the job of the chapter's examples.
func good() api.Job { return api.Job{Groups: 1, Size: 10, Slide: 10, Fold: api.Sum, Limit: 100} }

func event(key string, at, val int64) api.Event { return api.Event{Key: key, At: at, Val: val} }

// at are events of one key at such times, whose values tell them apart.
func at(times ...int64) []api.Event {
	var l []api.Event
	for i, t := range times {
		l = append(l, event("a", t, int64(i+1)))
	}
	return l
}

func result(key string, lo, hi, n, val int64) api.Result {
	return api.Result{Window: api.Window{Lo: lo, Hi: hi}, Key: key, N: n, Val: val}
}

// changed is a job with a change.
func changed(j api.Job, change func(j *api.Job)) api.Job {
	change(&j)
	return j
}

func delayed(delay int64) api.Job {
	return changed(good(), func(j *api.Job) { j.Delay = delay })
}

// validJobs have each field at the ends of what it may be.
func validJobs() []api.Job {
	return []api.Job{
		good(),
		changed(good(), func(j *api.Job) { j.Groups = 32 }),
		changed(good(), func(j *api.Job) { j.Size, j.Slide = 1, 1 }),
		changed(good(), func(j *api.Job) { j.Size, j.Slide = 16, 1 }),
		changed(good(), func(j *api.Job) { j.Size, j.Slide = 1<<20, 1<<16 }),
		changed(good(), func(j *api.Job) { j.Fold = api.Count }),
		changed(good(), func(j *api.Job) { j.Fold = api.Spread }),
		changed(good(), func(j *api.Job) { j.Fuel = 40 }),
		changed(good(), func(j *api.Job) { j.Limit = 0 }),
		changed(good(), func(j *api.Job) { j.Limit = greatest }),
		delayed(final),
		changed(good(), func(j *api.Job) { j.Idle = 1 << 20 }),
	}
}

// wrongJobs have one field each that is just outside of what it may be, or far.
func wrongJobs() []api.Job {
	return []api.Job{
		{},
		changed(good(), func(j *api.Job) { j.Groups = 0 }),
		changed(good(), func(j *api.Job) { j.Groups = 33 }),
		changed(good(), func(j *api.Job) { j.Groups = least }),
		changed(good(), func(j *api.Job) { j.Slide = 0 }),
		changed(good(), func(j *api.Job) { j.Slide = 11 }),
		changed(good(), func(j *api.Job) { j.Slide = least }),
		changed(good(), func(j *api.Job) { j.Size, j.Slide = 17, 1 }),
		changed(good(), func(j *api.Job) { j.Size, j.Slide = 1<<20+1, 1<<20 }),
		changed(good(), func(j *api.Job) { j.Size, j.Slide = greatest, greatest }),
		changed(good(), func(j *api.Job) { j.Fold = 0 }),
		changed(good(), func(j *api.Job) { j.Fold = 6 }),
		changed(good(), func(j *api.Job) { j.Fuel = -1 }),
		changed(good(), func(j *api.Job) { j.Fuel = 41 }),
		changed(good(), func(j *api.Job) { j.Fuel = greatest }),
		changed(good(), func(j *api.Job) { j.Limit = -1 }),
		changed(good(), func(j *api.Job) { j.Limit = least }),
		delayed(-1), delayed(final + 1), delayed(least), delayed(greatest),
		changed(good(), func(j *api.Job) { j.Idle = -1 }),
		changed(good(), func(j *api.Job) { j.Idle = 1<<20 + 1 }),
	}
}

func wrongEvents() []api.Event {
	return []api.Event{
		{}, event("", 5, 1), event(strings.Repeat("k", 17), 5, 1), event("a", -1, 1), event("a", least, 1), event("a", final, 1), event("a", greatest, 1),
	}
}

// wrongSources are not valid, most of them by one event among valid ones.
func wrongSources() [][]api.Event {
	l := [][]api.Event{scattered(1, 201, 0, 50), scattered(1, 1000, 0, 50)}
	for _, e := range wrongEvents() {
		l = append(l, []api.Event{e})
		for _, place := range []int{0, 1, 100, 199} {
			events := scattered(2, 200, 0, 50)
			events[place] = e
			l = append(l, events)
		}
	}
	return l
}

// scattered are n events from a time on, at times that jump about over a span, with few keys and values of all amounts: some are late, many meet in a window. The rule by which they jump is fixed.
func scattered(seed uint64, n int, from, span int64) []api.Event {
	state := seed*2654435761 + 12345
	next := func(most int64) int64 {
		state = state*6364136223846793005 + 1442695040888963407
		return int64(state>>33) % most
	}
	keys := []string{"a", "b", "ab", "é", strings.Repeat("k", 16)}
	var l []api.Event
	for range n {
		val := next(1<<31) << next(33)
		if next(2) == 0 {
			val = -val
		}
		l = append(l, event(keys[next(5)], from+next(span), val))
	}
	return l
}

// late is the chapter's word, by each event ahead rather than by a mark that goes along.
func late(l []api.Event, i int, delay int64) bool {
	return slices.ContainsFunc(l[:i], func(e api.Event) bool { return e.At-delay > l[i].At })
}

// left is an event as it leaves the loop, in numbers without end.
func left(j api.Job, e api.Event) api.Event {
	v, limit := big.NewInt(e.Val), big.NewInt(j.Limit)
	for n := 0; n < j.Fuel && new(big.Int).Abs(v).Cmp(limit) > 0; n++ {
		v.Quo(v, big.NewInt(2))
	}
	e.Val = v.Int64()
	return e
}

// keptOf is what P14.1 says of Kept, written apart from the package.
func keptOf(j api.Job, l []api.Event) []api.Event {
	var kept []api.Event
	for i, e := range l {
		if !late(l, i, j.Delay) {
			kept = append(kept, left(j, e))
		}
	}
	return kept
}

// markOf is the chapter's mark behind all events.
func markOf(j api.Job, l []api.Event) int64 {
	mark := int64(0)
	for _, e := range l {
		mark = max(mark, e.At-j.Delay)
	}
	return mark
}

// windowsOf are those that contain a time, by chapter 5's words.
func windowsOf(j api.Job, t int64) []api.Window {
	var l []api.Window
	for n := max(0, t/j.Slide-20); n <= t/j.Slide; n++ {
		if w := (api.Window{Lo: n * j.Slide, Hi: min(n*j.Slide+j.Size, final)}); t < w.Hi {
			l = append(l, w)
		}
	}
	return l
}

// foldOf is what a fold has of values, all of them at once.
func foldOf(kind int, values []int64) int64 {
	var sum int64
	for _, v := range values {
		sum += v
	}
	return []int64{0, int64(len(values)), sum, slices.Min(values), slices.Max(values), slices.Max(values) - slices.Min(values)}[kind]
}

type place struct {
	window api.Window
	key    string
}

// order is chapter 7's of panes.
func order(a, b api.Result) int {
	for _, d := range []int64{a.Hi - b.Hi, a.Lo - b.Lo, int64(strings.Compare(a.Key, b.Key))} {
		if d != 0 {
			return int(d)
		}
	}
	return 0
}

// required is what P14.2 says of Run, written apart from the package.
func required(j api.Job, inputs [][]api.Event) []api.Result {
	values := map[place][]int64{}
	for _, l := range inputs {
		for _, e := range keptOf(j, l) {
			for _, w := range windowsOf(j, e.At) {
				p := place{w, e.Key}
				values[p] = append(values[p], e.Val)
			}
		}
	}
	var l []api.Result
	for p, of := range values {
		l = append(l, result(p.key, p.window.Lo, p.window.Hi, int64(len(of)), foldOf(j.Fold, of)))
	}
	slices.SortFunc(l, order)
	return l
}

// apart cuts two lists down to where they differ first, so that what is told of long ones stays short.
func apart[E comparable](got, want []E) ([]E, []E) {
	for len(got) > 0 && len(want) > 0 && got[0] == want[0] {
		got, want = got[1:], want[1:]
	}
	return got[:min(len(got), 3)], want[:min(len(want), 3)]
}

func checkKept(t *testing.T, j api.Job, l, want []api.Event) {
	t.Helper()
	if got, err := Kept(j, l); err != api.OK || !slices.Equal(got, want) {
		some, others := apart(got, want)
		t.Fatalf("Kept(%+v, %d events) = %d events, %d, want %d; where they differ: %+v, want %+v", j, len(l), len(got), err, len(want), some, others)
	}
}

func checkMark(t *testing.T, j api.Job, l []api.Event, want int64) {
	t.Helper()
	if got := Mark(j, l); got != want {
		t.Fatalf("Mark(%+v, %d events) = %d, want %d", j, len(l), got, want)
	}
}

// checkNotKept holds Kept's answer against an error, and Mark's against 0.
func checkNotKept(t *testing.T, j api.Job, l []api.Event, want api.Errno) {
	t.Helper()
	if got, err := Kept(j, l); err != want || len(got) != 0 {
		t.Fatalf("Kept(%+v, %d events) = %d events, %d, want none and %d", j, len(l), len(got), err, want)
	}
	checkMark(t, j, l, 0)
}

func run(t *testing.T, j api.Job, inputs ...[]api.Event) []api.Result {
	t.Helper()
	got, err := Run(j, inputs)
	if err != api.OK {
		t.Fatalf("Run(%+v, %d sources) answers the error %d", j, len(inputs), err)
	}
	return got
}

func checkRun(t *testing.T, j api.Job, inputs [][]api.Event, want ...api.Result) {
	t.Helper()
	if got := run(t, j, inputs...); !slices.Equal(got, want) {
		some, others := apart(got, want)
		t.Fatalf("Run(%+v, %d sources) = %d results, want %d; where they differ: %+v, want %+v", j, len(inputs), len(got), len(want), some, others)
	}
}

func checkNoRun(t *testing.T, j api.Job, inputs [][]api.Event, want api.Errno) {
	t.Helper()
	if got, err := Run(j, inputs); err != want || len(got) != 0 {
		t.Fatalf("Run(%+v, %d sources) = %d results, %d, want none and %d", j, len(inputs), len(got), err, want)
	}
}

// The places are those of the kept events in l, whose values at gives from 1 on.
func TestP14_1ByHand(t *testing.T) {
	cases := []struct {
		delay  int64
		l      []api.Event
		places []int
		mark   int64
	}{
		{0, nil, nil, 0},
		{0, at(0), []int{0}, 0},
		{0, at(7), []int{0}, 7},
		{0, at(3, 12, 5), []int{0, 1}, 12},
		{7, at(3, 12, 5), []int{0, 1, 2}, 5},
		{6, at(3, 12, 5), []int{0, 1}, 6},
		{8, at(3, 12, 5), []int{0, 1, 2}, 4},
		// An event at the mark is not late.
		{0, at(12, 12, 12), []int{0, 1, 2}, 12},
		{0, at(12, 11, 12), []int{0, 2}, 12},
		// A late event leaves the mark where it is, and the first mark of all is 0.
		{0, at(12, 5, 6, 11, 13), []int{0, 4}, 13},
		{3, at(12, 8, 9, 8, 9), []int{0, 2, 4}, 9},
		{0, at(0, 0, 0), []int{0, 1, 2}, 0},
		{5, at(4, 0, 5, 0, 6, 0, 1), []int{0, 1, 2, 3, 4, 6}, 1},
		{0, at(final-1, final-1, final-2, 0), []int{0, 1}, final - 1},
		{1, at(final-1, final-2, final-3), []int{0, 1}, final - 2},
		{final - 1, at(final-1, 0), []int{0, 1}, 0},
		{final - 2, at(final-1, 0, 1), []int{0, 2}, 1},
		{final, at(final-1, 0, 5), []int{0, 1, 2}, 0},
	}
	for _, c := range cases {
		var want []api.Event
		for _, i := range c.places {
			want = append(want, c.l[i])
		}
		checkKept(t, delayed(c.delay), c.l, want)
		checkMark(t, delayed(c.delay), c.l, c.mark)
	}
}

// rows hands over all rows of up to n of the times.
func rows(times []int64, n int, use func(row []int64)) {
	var more func(row []int64)
	more = func(row []int64) {
		use(row)
		if len(row) == n {
			return
		}
		for _, t := range times {
			more(append(slices.Clone(row), t))
		}
	}
	more(nil)
}

func TestP14_1AllShortRows(t *testing.T) {
	for _, delay := range []int64{0, 1, 2, 3, 4, 5, final - 2, final - 1, final} {
		for _, times := range [][]int64{{0, 1, 2, 3, 4}, {final - 1, final - 2, final - 3, 1, 0}} {
			rows(times, 5, func(row []int64) {
				checkKept(t, delayed(delay), at(row...), keptOf(delayed(delay), at(row...)))
				checkMark(t, delayed(delay), at(row...), markOf(delayed(delay), at(row...)))
			})
		}
	}
}

// Lateness is by the time alone: a mark is of a source, not of a key.
func TestP14_1OtherKeys(t *testing.T) {
	checkKept(t, good(), []api.Event{event("a", 12, 1), event("b", 5, 2), event("b", 12, 3)}, []api.Event{event("a", 12, 1), event("b", 12, 3)})
}

// Events are kept as they leave the loop; what the loop makes of a value changes nothing about its time.
func TestP14_1Loop(t *testing.T) {
	cases := []struct {
		limit     int64
		fuel      int
		val, want int64
	}{
		{100, 0, 1000, 1000}, {100, 40, 1000, 62}, {100, 1, 1000, 500}, {100, 40, 100, 100}, {100, 40, 101, 50}, {100, 40, -101, -50}, {3, 9, 20, 2}, {0, 1, 1, 0}, {0, 1, 2, 1},
		{0, 40, 5, 0}, {0, 40, least, -1 << 23}, {greatest, 40, least, -1 << 62}, {greatest, 40, greatest, greatest}, {greatest, 0, least, least},
	}
	for _, c := range cases {
		j := changed(good(), func(j *api.Job) { j.Limit, j.Fuel = c.limit, c.fuel })
		events := []api.Event{event("k", 12, c.val), event("k", 11, c.val), event("l", 13, c.val)}
		checkKept(t, j, events, []api.Event{event("k", 12, c.want), event("l", 13, c.want)})
		checkMark(t, j, events, 13)
	}
}

func TestP14_1LongSources(t *testing.T) {
	for _, j := range validJobs() {
		for _, delay := range []int64{0, 1, 10, 30, 49, 50, final} {
			j.Delay = delay
			for seed := range uint64(10) {
				for _, n := range []int{1, 2, 50, 199, 200} {
					for _, from := range []int64{0, final - 50} {
						l := scattered(seed, n, from, 50)
						checkKept(t, j, l, keptOf(j, l))
						checkMark(t, j, l, markOf(j, l))
					}
				}
			}
		}
	}
}

func TestP14_1Errors(t *testing.T) {
	for _, j := range validJobs() {
		checkKept(t, j, []api.Event{}, nil)
		checkMark(t, j, []api.Event{}, 0)
		for _, l := range wrongSources() {
			checkNotKept(t, j, l, api.ErrArg)
		}
	}
	for _, j := range wrongJobs() {
		checkNotKept(t, j, nil, api.ErrJob)
		checkNotKept(t, j, at(3, 12, 5), api.ErrJob)
		for _, l := range wrongSources() {
			checkNotKept(t, j, l, api.ErrJob)
		}
	}
}

// An event that would be late must be valid all the same, and so must one behind the last one kept.
func TestP14_1WrongLateEvent(t *testing.T) {
	checkNotKept(t, good(), []api.Event{event("a", 12, 1), event("", 3, 1)}, api.ErrArg)
	checkNoRun(t, good(), [][]api.Event{{event("a", 12, 1), event("", 3, 1)}}, api.ErrArg)
	checkNoRun(t, good(), [][]api.Event{at(12), {event("a", -1, 1)}}, api.ErrArg)
}

func TestP14_2ByHand(t *testing.T) {
	sources := func(l ...[]api.Event) [][]api.Event { return l }
	rising := []api.Event{event("a", 3, 1), event("a", 12, 2)}
	chapter := []api.Event{event("a", 3, 1), event("a", 12, 2), event("a", 5, 4)}
	checkRun(t, good(), sources(chapter), result("a", 0, 10, 1, 1), result("a", 10, 20, 1, 2))
	checkRun(t, delayed(7), sources(chapter), result("a", 0, 10, 2, 5), result("a", 10, 20, 1, 2))
	checkRun(t, good(), sources(rising), result("a", 0, 10, 1, 1), result("a", 10, 20, 1, 2))
	checkRun(t, good(), sources([]api.Event{event("a", 12, 2), event("a", 3, 1)}), result("a", 10, 20, 1, 2))
	checkRun(t, good(), sources([]api.Event{event("a", 3, 1)}, []api.Event{event("a", 3, 4)}), result("a", 0, 10, 2, 5))
	checkRun(t, changed(good(), func(j *api.Job) { j.Slide = 5 }), sources(rising), result("a", 0, 10, 1, 1), result("a", 5, 15, 1, 2), result("a", 10, 20, 1, 2))
	checkRun(t, changed(good(), func(j *api.Job) { j.Limit, j.Fuel = 0, 1 }), sources(rising), result("a", 0, 10, 1, 0), result("a", 10, 20, 1, 1))
	checkRun(t, good(), sources(nil))
	checkRun(t, good(), sources(nil, []api.Event{}, nil, nil))
	// The mark of one source makes no event of another one late.
	checkRun(t, good(), sources(at(50), at(3)), result("a", 0, 10, 1, 1), result("a", 50, 60, 1, 1))
	// A window ends at Final at the latest.
	checkRun(t, good(), sources(at(final-1)), result("a", final-6, final, 1, 1))
	checkRun(t, changed(good(), func(j *api.Job) { j.Slide = 5 }), sources(at(final-1)), result("a", final-6, final, 1, 1), result("a", final-1, final, 1, 1))
}

func TestP14_2Folds(t *testing.T) {
	l := []api.Event{event("a", 3, 5), event("b", 4, 7), event("a", 5, -2), event("a", 5, 9)}
	for kind, want := range []int64{api.Count: 3, api.Sum: 12, api.Least: -2, api.Greatest: 9, api.Spread: 11} {
		if kind != 0 {
			j := changed(good(), func(j *api.Job) { j.Fold = kind })
			checkRun(t, j, [][]api.Event{l}, result("a", 0, 10, 3, want), result("b", 0, 10, 1, []int64{0, 1, 7, 7, 7, 0}[kind]))
		}
	}
	most := [][]api.Event{{event("a", 3, greatest)}, {event("a", 3, 1)}}
	checkRun(t, changed(good(), func(j *api.Job) { j.Limit = greatest }), most, result("a", 0, 10, 2, least))
}

// variedJobs have windows, folds, delays and loops of many kinds.
func variedJobs() []api.Job {
	var l []api.Job
	for _, w := range []api.Window{{Lo: 1, Hi: 1}, {Lo: 10, Hi: 10}, {Lo: 10, Hi: 5}, {Lo: 16, Hi: 1}, {Lo: 10, Hi: 4}, {Lo: 10, Hi: 7}, {Lo: 1 << 20, Hi: 1 << 16}} {
		for kind := api.Count; kind <= api.Spread; kind++ {
			for i, delay := range []int64{0, 1, 20, final} {
				l = append(l, api.Job{Groups: 1 + i, Size: w.Lo, Slide: w.Hi, Fold: kind, Fuel: 13 * i, Limit: int64(1000 * kind), Delay: delay, Idle: i})
			}
		}
	}
	return l
}

// variedInputs are one to four sources of many events, at the first and the last times and between.
func variedInputs() [][][]api.Event {
	var l [][][]api.Event
	for n := range uint64(4) {
		for _, from := range []int64{0, 1<<32 - 20, final - 60} {
			var inputs [][]api.Event
			for i := range n + 1 {
				inputs = append(inputs, scattered(7*n+i, int(5+17*i*n), from, 60))
			}
			l = append(l, inputs)
		}
	}
	return l
}

func TestP14_2AsDefined(t *testing.T) {
	for _, j := range variedJobs() {
		for _, inputs := range variedInputs() {
			checkRun(t, j, inputs, required(j, inputs)...)
		}
	}
}

func TestP14_2Errors(t *testing.T) {
	right := at(3, 12, 5)
	for _, j := range wrongJobs() {
		checkNoRun(t, j, nil, api.ErrJob)
		checkNoRun(t, j, [][]api.Event{right}, api.ErrJob)
		checkNoRun(t, j, [][]api.Event{wrongEvents()}, api.ErrJob)
		checkNoRun(t, j, make([][]api.Event, 5), api.ErrJob)
	}
	for _, j := range validJobs() {
		checkNoRun(t, j, nil, api.ErrArg)
		checkNoRun(t, j, [][]api.Event{}, api.ErrArg)
		checkNoRun(t, j, [][]api.Event{right, right, right, right, right}, api.ErrArg)
		checkNoRun(t, j, make([][]api.Event, 5), api.ErrArg)
		for _, wrong := range wrongSources() {
			checkNoRun(t, j, [][]api.Event{wrong}, api.ErrArg)
			checkNoRun(t, j, [][]api.Event{right, right, nil, wrong}, api.ErrArg)
			checkNoRun(t, j, [][]api.Event{wrong, right}, api.ErrArg)
		}
	}
}

// crowded has 16 windows for each time from 15 on, and one at 0.
func crowded() api.Job {
	return api.Job{Groups: 1, Size: 16, Slide: 1, Fold: api.Sum, Limit: 100, Delay: final}
}

// crowd are n events of a key each.
func crowd(n int) []api.Event {
	var l []api.Event
	for i := range n {
		l = append(l, event(strconv.Itoa(1000+i), 20, 1))
	}
	return l
}

// along are n events whose windows are far from each other's.
func along(n int) []api.Event {
	var l []api.Event
	for i := range n {
		l = append(l, event("a", int64(20+100*i), 1))
	}
	return l
}

func TestP14_2Full(t *testing.T) {
	fresh, again := event("z", 0, 1), event("1000", 20, 1)
	for _, l := range [][]api.Event{crowd(125), along(125)} {
		if got := run(t, crowded(), l); len(got) != 2000 {
			t.Errorf("Run has %d results, want 2000", len(got))
		}
		checkNoRun(t, crowded(), [][]api.Event{append(slices.Clone(l), fresh)}, api.ErrFull)
		checkNoRun(t, crowded(), [][]api.Event{append([]api.Event{fresh}, l...)}, api.ErrFull)
		for _, inputs := range [][][]api.Event{{l, {fresh}}, {{fresh}, l}, {nil, l, nil, {fresh}}, {l[:50], {fresh}, l[50:100], l[100:]}} {
			checkNoRun(t, crowded(), inputs, api.ErrFull)
		}
		// What meets panes that there are already needs no room.
		for _, inputs := range [][][]api.Event{{l, l, l, l}, {append(slices.Clone(l), l[:75]...), {l[0]}}} {
			checkRun(t, crowded(), inputs, required(crowded(), inputs)...)
		}
	}
	checkRun(t, crowded(), [][]api.Event{append(crowd(125), again)}, required(crowded(), [][]api.Event{append(crowd(125), again)})...)
	checkNoRun(t, crowded(), [][]api.Event{crowd(126)}, api.ErrFull)
	checkNoRun(t, crowded(), [][]api.Event{along(126)}, api.ErrFull)
	checkNoRun(t, crowded(), [][]api.Event{crowd(200), along(200), crowd(200), along(200)}, api.ErrFull)
}

// A late event needs no room: it is only by the delay that it is kept.
func TestP14_2FullByLateness(t *testing.T) {
	inputs := [][]api.Event{append(crowd(125), event("z", 0, 1))}
	for _, delay := range []int64{0, 1, 19} {
		j := crowded()
		j.Delay = delay
		checkRun(t, j, inputs, required(j, inputs)...)
	}
	for _, delay := range []int64{20, 21, final} {
		j := crowded()
		j.Delay = delay
		checkNoRun(t, j, inputs, api.ErrFull)
	}
}

// Too many panes are told behind all other errors, and of Run alone.
func TestP14_2FullIsLast(t *testing.T) {
	many := crowd(200)
	checkNoRun(t, crowded(), [][]api.Event{many}, api.ErrFull)
	checkNoRun(t, crowded(), [][]api.Event{many, many, many, many, many}, api.ErrArg)
	for _, e := range wrongEvents() {
		checkNoRun(t, crowded(), [][]api.Event{many, {e}}, api.ErrArg)
	}
	j := crowded()
	j.Groups = 0
	checkNoRun(t, j, [][]api.Event{many}, api.ErrJob)
	checkKept(t, crowded(), many, many)
	checkMark(t, crowded(), many, 0)
}

// orders are all orders of a few things.
func orders[E any](l []E) [][]E {
	if len(l) == 0 {
		return [][]E{nil}
	}
	var all [][]E
	for i := range l {
		for _, others := range orders(slices.Delete(slices.Clone(l), i, i+1)) {
			all = append(all, append([]E{l[i]}, others...))
		}
	}
	return all
}

func TestP14_3OrderOfSources(t *testing.T) {
	for i, j := range variedJobs() {
		inputs := variedInputs()[i%12]
		want := run(t, j, inputs...)
		for _, other := range orders(inputs) {
			checkRun(t, j, other, want...)
		}
	}
}

func TestP14_3GroupsAndIdle(t *testing.T) {
	for i, j := range variedJobs() {
		inputs := variedInputs()[i%12]
		want := run(t, j, inputs...)
		for _, groups := range []int{1, 2, 7, 31, 32} {
			for _, idle := range []int{0, 1, 2, 100, 1 << 20} {
				j.Groups, j.Idle = groups, idle
				checkRun(t, j, inputs, want...)
			}
		}
	}
}

// With a delay of Final any order of events will do.
func TestP14_3OrderOfEvents(t *testing.T) {
	for _, j := range variedJobs() {
		if j.Delay != final {
			continue
		}
		few := []api.Event{event("a", final-1, 5), event("a", 0, -7), event("b", 12, 3000), event("a", final-1, 9000), event("a", 5, 1)}
		want := run(t, j, few)
		for _, other := range orders(few) {
			checkRun(t, j, [][]api.Event{other}, want...)
			if kept, _ := Kept(j, other); len(kept) != len(other) {
				t.Errorf("of %d events only %d are kept", len(other), len(kept))
			}
		}
		many := scattered(3, 200, 0, 60)
		want = run(t, j, many)
		turned := slices.Concat(many[77:], many[:77])
		checkRun(t, j, [][]api.Event{turned}, want...)
		slices.Reverse(turned)
		checkRun(t, j, [][]api.Event{turned}, want...)
	}
}

// With a lesser delay the order tells only which events are late: the results are those of the other events alone, in any order.
func TestP14_3OrderByLatenessAlone(t *testing.T) {
	differ := false
	for _, delay := range []int64{0, 3, 8} {
		for _, l := range orders(at(3, 12, 5, 9, 21)) {
			var others []api.Event
			for i, e := range l {
				if !late(l, i, delay) {
					others = append(others, e)
				}
			}
			differ = differ || len(others) < len(l)
			slices.Reverse(others)
			checkRun(t, delayed(delay), [][]api.Event{l}, run(t, delayed(final), others)...)
		}
	}
	if !differ {
		t.Error("no event is late in any order")
	}
}

func TestP14_4EachEventOnce(t *testing.T) {
	for _, j := range variedJobs() {
		if j.Size != j.Slide {
			continue
		}
		for _, inputs := range variedInputs() {
			var kept, sum int64
			for _, l := range inputs {
				events, _ := Kept(j, l)
				kept += int64(len(events))
			}
			for _, r := range run(t, j, inputs...) {
				sum += r.N
			}
			if kept != sum || kept == 0 {
				t.Fatalf("%d events are kept, and the sum of the Ns is %d", kept, sum)
			}
		}
	}
}

func TestP14_4MoreSources(t *testing.T) {
	for _, j := range variedJobs() {
		for _, inputs := range variedInputs() {
			for n := 1; n < len(inputs); n++ {
				more := run(t, j, inputs[:n+1]...)
				for _, r := range run(t, j, inputs[:n]...) {
					if !slices.ContainsFunc(more, func(m api.Result) bool { return m.Window == r.Window && m.Key == r.Key && m.N >= r.N }) {
						t.Fatalf("%+v is gone, or less, by one more source", r)
					}
				}
			}
		}
	}
}

// P1, R1, R4: nothing that was passed or answered changes, and what an earlier call was passed tells nothing in a later one.
func TestR4ListsStay(t *testing.T) {
	inputs := [][]api.Event{scattered(1, 200, 0, 60), scattered(2, 150, 0, 60)}
	before := [][]api.Event{slices.Clone(inputs[0]), slices.Clone(inputs[1])}
	j := changed(delayed(20), func(j *api.Job) { j.Fuel, j.Limit = 40, 3 })
	results := run(t, j, inputs...)
	kept, _ := Kept(j, inputs[0])
	checkNoRun(t, crowded(), [][]api.Event{crowd(200)}, api.ErrFull)
	checkNoRun(t, j, [][]api.Event{wrongEvents()}, api.ErrArg)
	checkMark(t, j, inputs[1], markOf(j, before[1]))
	if !slices.EqualFunc(inputs, before, slices.Equal[[]api.Event]) {
		t.Error("the events that were passed changed")
	}
	checkRun(t, j, inputs, results...)
	checkKept(t, j, inputs[0], kept)
	clear(kept)
	clear(run(t, j, inputs...))
	if !slices.EqualFunc(inputs, before, slices.Equal[[]api.Event]) {
		t.Error("what was answered is a part of what was passed")
	}
	checkRun(t, j, inputs, required(j, before)...)
	checkKept(t, j, inputs[0], keptOf(j, before[0]))
}
