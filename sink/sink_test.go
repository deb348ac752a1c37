package sink

import (
	"math"
	"slices"
	"strconv"
	"strings"
	"testing"

	"clepsydra/api"
)

const (
	last   = 1073741824 // the greatest number of a stage
	all    = 20000      // the most results
	stages = 8
)

func one(key string, lo, hi, n, value int64) api.Result {
	return api.Result{Window: api.Window{Lo: lo, Hi: hi}, Key: key, N: n, Val: value}
}

// named is a result that a letter tells from others.
func named(key string) api.Result { return one(key, 0, 5, 1, 7) }

// row is results by their letters.
func row(keys string) []api.Result {
	var l []api.Result
	for _, c := range []byte(keys) {
		l = append(l, named(string([]byte{c})))
	}
	return l
}

func stage(n int, results ...api.Result) api.Stage { return api.Stage{N: n, Results: results} }

func of(open []api.Result, last int, out []api.Result, stages ...api.Stage) api.Sink {
	return api.Sink{Open: open, Stages: stages, Last: last, Out: out}
}

// some is so many valid results, which differ.
func some(n, from int) []api.Result {
	l := make([]api.Result, n)
	for i := range l {
		value := int64(from + i)
		l[i] = one("k"+strconv.Itoa((from+i)%7), value, value+10, value%5+1, -value)
	}
	return l
}

// someResults are valid, at the bounds of their fields.
func someResults() []api.Result {
	return []api.Result{
		named("x"), one("x", 0, 5, 1, 7), one("\x00", 0, 1, 1, 0), one(strings.Repeat("k", 16), 0, api.Final, last, math.MinInt64),
		one("\xff\xfe", api.Final-1, api.Final, last-1, math.MaxInt64), one("a", 5, 6, 2, -1), one("a", 1<<32, 1<<32+1, 256, 1<<40),
	}
}

// wrongResults are none of chapter 4's.
func wrongResults() []api.Result {
	return []api.Result{
		{}, one("", 0, 5, 1, 7), one(strings.Repeat("k", 17), 0, 5, 1, 7), one(strings.Repeat("k", 257), 0, 5, 1, 7), one(strings.Repeat("\x00", 1<<16+1), 0, 5, 1, 7),
		one("a", -1, 5, 1, 7), one("a", math.MinInt64, 5, 1, 7), one("a", 5, 5, 1, 7), one("a", 6, 5, 1, 7), one("a", 0, 0, 1, 7), one("a", -5, -4, 1, 7),
		one("a", 0, api.Final+1, 1, 7), one("a", api.Final, api.Final+1, 1, 7), one("a", api.Final, api.Final, 1, 7), one("a", 0, math.MaxInt64, 1, 7), one("a", 0, -1, 1, 7),
		one("a", 0, 5, 0, 7), one("a", 0, 5, -1, 7), one("a", 0, 5, last+1, 7), one("a", 0, 5, 1<<32, 7), one("a", 0, 5, 1<<32+1, 7), one("a", 0, 5, math.MinInt64, 7), one("a", 0, 5, math.MaxInt64, 7),
	}
}

func validResult(r api.Result) bool {
	if r.Key == "" || len(r.Key) > 16 || r.N <= 0 || r.N > last {
		return false
	}
	return r.Lo >= 0 && r.Hi-r.Lo > 0 && r.Hi <= 1<<40
}

// valid is the chapter's word, over one list of all results and one of all numbers.
func valid(s api.Sink) bool {
	if len(s.Stages) > stages {
		return false
	}
	results, numbers := slices.Concat(s.Open, s.Out), []int{s.Last}
	for _, st := range s.Stages {
		results, numbers = append(results, st.Results...), append(numbers, st.N)
	}
	for i, n := range numbers {
		if n < 0 || n > last || i > 0 && numbers[i-1] >= n {
			return false
		}
	}
	wrong := slices.IndexFunc(results, func(r api.Result) bool { return !validResult(r) })
	return len(results) <= all && wrong < 0
}

// outcome is all that a call answers.
type outcome struct {
	s   api.Sink
	err api.Errno
}

func refused(err api.Errno) outcome { return outcome{err: err} }

// copied has lists of its own.
func copied(s api.Sink) api.Sink {
	c := api.Sink{Open: append([]api.Result{}, s.Open...), Last: s.Last, Out: append([]api.Result{}, s.Out...)}
	for _, st := range s.Stages {
		c.Stages = append(c.Stages, stage(st.N, append([]api.Result{}, st.Results...)...))
	}
	return c
}

// call is a call of one of the functions that answer a sink; n and r are its argument, where it has one.
type call struct {
	name string
	n    int
	r    api.Result
}

func add(r api.Result) call { return call{name: "Add", r: r} }

func set(n int) call { return call{name: "Stage", n: n} }

func commit(n int) call { return call{name: "Commit", n: n} }

func abort() call { return call{name: "Abort"} }

func (c call) do(s api.Sink) outcome {
	var o outcome
	switch c.name {
	case "Add":
		o.s, o.err = Add(s, c.r)
	case "Stage":
		o.s, o.err = Stage(s, c.n)
	case "Commit":
		o.s, o.err = Commit(s, c.n)
	case "Abort":
		o.s, o.err = Abort(s)
	}
	return o
}

// due is what P19.1 to P19.4 ask of a call, worked out apart from the package.
func (c call) due(s api.Sink) outcome {
	if !valid(s) {
		return refused(api.ErrArg)
	}
	switch c.name {
	case "Add":
		return addDue(s, c.r)
	case "Stage":
		return stageDue(s, c.n)
	case "Commit":
		return commitDue(s, c.n)
	}
	return outcome{s: api.Sink{Last: s.Last, Out: copied(s).Out}}
}

func addDue(s api.Sink, r api.Result) outcome {
	if !validResult(r) {
		return refused(api.ErrArg)
	}
	after := copied(s)
	after.Open = append(after.Open, r)
	if !valid(after) { // only the number of results may be wrong now
		return refused(api.ErrFull)
	}
	return outcome{s: after}
}

func stageDue(s api.Sink, n int) outcome {
	if n > last {
		return refused(api.ErrArg)
	}
	for _, st := range append(slices.Clone(s.Stages), stage(s.Last)) {
		if st.N >= n {
			return refused(api.ErrStage)
		}
	}
	after := copied(s)
	after.Stages, after.Open = append(after.Stages, stage(n, after.Open...)), nil
	if !valid(after) { // only the number of stages may be wrong now
		return refused(api.ErrFull)
	}
	return outcome{s: after}
}

func commitDue(s api.Sink, n int) outcome {
	after := copied(s)
	if n <= s.Last {
		return outcome{s: after}
	}
	for len(after.Stages) > 0 && after.Stages[0].N <= n {
		after.Last, after.Out = after.Stages[0].N, append(after.Out, after.Stages[0].Results...)
		after.Stages = after.Stages[1:]
	}
	if after.Last != n {
		return refused(api.ErrStage)
	}
	return outcome{s: after}
}

func equalStages(a, b []api.Stage) bool {
	return slices.EqualFunc(a, b, func(a, b api.Stage) bool { return a.N == b.N && slices.Equal(a.Results, b.Results) })
}

func equalSinks(a, b api.Sink) bool {
	return slices.Equal(a.Open, b.Open) && equalStages(a.Stages, b.Stages) && a.Last == b.Last && slices.Equal(a.Out, b.Out)
}

func toldResult(r api.Result) string {
	s := strconv.Quote(r.Key[:min(len(r.Key), 20)])
	for _, n := range []int64{r.Lo, r.Hi, r.N, r.Val} {
		s += " " + strconv.FormatInt(n, 10)
	}
	return s
}

func toldResults(l []api.Result) string {
	s := strconv.Itoa(len(l)) + " results"
	for _, r := range l[:min(len(l), 3)] {
		s += ", " + toldResult(r)
	}
	return s
}

func told(s api.Sink) string {
	text := "{Open " + toldResults(s.Open) + "; " + strconv.Itoa(len(s.Stages)) + " stages"
	for _, st := range s.Stages[:min(len(s.Stages), 9)] {
		text += ", (" + strconv.Itoa(st.N) + ": " + toldResults(st.Results) + ")"
	}
	return text + "; Last " + strconv.Itoa(s.Last) + "; Out " + toldResults(s.Out) + "}"
}

func (c call) told() string {
	switch c.name {
	case "Add":
		return "Add " + toldResult(c.r)
	case "Abort":
		return c.name
	}
	return c.name + " " + strconv.Itoa(c.n)
}

func (o outcome) told() string { return told(o.s) + ", error " + strconv.Itoa(int(o.err)) }

// spare is what lies behind a list in the tests, within its capacity; no call may write there.
func spare[T any](l []T, more ...T) []T {
	own := make([]T, len(l), len(l)+len(more))
	copy(own, l)
	copy(own[len(l):cap(own)], more)
	return own
}

func behind[T any](l []T) []T { return l[len(l):cap(l)] }

func spareResults() []api.Result { return row("PQR") }

func spareStages() []api.Stage { return []api.Stage{stage(77, row("S")...), stage(78, row("T")...)} }

// roomy shares nothing with the sink that it is a copy of, and has room behind its lists.
func roomy(s api.Sink) api.Sink {
	more := spareResults()
	c := api.Sink{Open: spare(s.Open, more...), Last: s.Last, Out: spare(s.Out, more...)}
	for _, st := range s.Stages {
		c.Stages = append(c.Stages, stage(st.N, spare(st.Results, more...)...))
	}
	c.Stages = spare(c.Stages, spareStages()...)
	return c
}

// untouched tells whether a roomy copy is as it was.
func untouched(before, s api.Sink) bool {
	if !equalSinks(before, s) || !equalStages(behind(s.Stages), spareStages()) {
		return false
	}
	for _, l := range lists(s) {
		if !slices.Equal(behind(l), spareResults()) {
			return false
		}
	}
	return true
}

func lists(s api.Sink) [][]api.Result {
	l := [][]api.Result{s.Open, s.Out}
	for _, st := range s.Stages {
		l = append(l, st.Results)
	}
	return l
}

// scratch changes all that a list has, and what lies behind it.
func scratch[T any](l []T, with T) {
	for i := range l[:cap(l)] {
		l[:cap(l)][i] = with
	}
}

// alone scratches all lists of an answer, one behind the other, each with a result of its own, and tells whether one changed with another.
func alone(s api.Sink) bool {
	l := lists(s)
	for i := range l {
		scratch(l[i], one("scratch", int64(i), 100, 1, 0))
	}
	right := true
	for i := range l {
		right = right && !slices.ContainsFunc(l[i][:cap(l[i])], func(r api.Result) bool { return r.Lo != int64(i) })
	}
	scratch(s.Stages, stage(99))
	return right
}

func check(t *testing.T, s api.Sink, c call, want outcome) {
	t.Helper()
	mine := roomy(s)
	is := c.do(mine)
	if !equalSinks(is.s, want.s) || is.err != want.err || is.err == api.OK && !Right(is.s) {
		t.Errorf("%s, %s: %s, want %s", told(s), c.told(), is.told(), want.told())
	}
	if !alone(is.s) {
		t.Errorf("%s, %s: the lists of the answer share", told(s), c.told())
	}
	if !untouched(s, mine) {
		t.Errorf("%s, %s: the argument has changed, or changes with the answer: %s", told(s), c.told(), told(mine))
	}
}

// no holds that a call is refused by this error.
func no(t *testing.T, s api.Sink, c call, err api.Errno) {
	t.Helper()
	check(t, s, c, refused(err))
}

func yes(t *testing.T, s api.Sink, c call, after api.Sink) {
	t.Helper()
	check(t, s, c, outcome{s: after})
}

func checkRight(t *testing.T, s api.Sink, want bool) {
	t.Helper()
	mine := roomy(s)
	if got := Right(mine); got != want || valid(s) != want {
		t.Errorf("Right(%s): %t, want %t", told(s), got, want)
	}
	if !untouched(s, mine) {
		t.Errorf("Right(%s) changed it", told(s))
	}
}

// numbered is a sink with a stage of each of these numbers, and results everywhere.
func numbered(last int, numbers ...int) api.Sink {
	s := of(row("op"), last, row("q"))
	for i, n := range numbers {
		s.Stages = append(s.Stages, stage(n, some(i%4, 10*i)...))
	}
	return s
}

// rightSinks are valid, at the bounds of their numbers, and with all numbers of stages.
func rightSinks() []api.Sink {
	l := []api.Sink{{}, of(row("x"), 0, nil), of(nil, 0, row("x")), of(nil, 0, nil, stage(1)), of(nil, last, nil), of(row("ab"), last, row("cd"))}
	l = append(l, of([]api.Result{}, 0, []api.Result{}, stage(1, []api.Result{}...)), of(someResults(), 3, someResults(), stage(5, someResults()...)))
	l = append(l, numbered(0, 1, 2), numbered(0, 2, 3), numbered(3, 4), numbered(3, 7, 9), numbered(last-1, last), numbered(0, last), numbered(last-2, last-1, last), numbered(255, 256, 65536))
	l = append(l, numbered(0, 1, 2, 3, 4, 5, 6, 7, 8), numbered(1, 2, 3, 4, 5, 6, 7, 8, 9), numbered(0, 1, 3, 4, 5, 6, 7, 8, last-1))
	numbers := []int{1, 2, 3, 5, 255, 256, 65536, last}
	for n := range stages + 1 {
		l = append(l, numbered(0, numbers[stages-n:]...), numbered(0, numbers[:n]...))
	}
	return l
}

// spread is so many results, over the lists of a sink by a rule.
func spread(n int, where func(i int) int, numbers ...int) api.Sink {
	s, results := of(nil, 0, nil), some(n, 0)
	for _, number := range numbers {
		s.Stages = append(s.Stages, stage(number))
	}
	places := []*[]api.Result{&s.Open, &s.Out}
	for i := range s.Stages {
		places = append(places, &s.Stages[i].Results)
	}
	for i, r := range results {
		p := places[where(i)%len(places)]
		*p = append(*p, r)
	}
	return s
}

// filled are sinks of so many results, which lie in one list or in many.
func filled(n int) []api.Sink {
	open := func(int) int { return 0 }
	out := func(int) int { return 1 }
	first := func(int) int { return 2 }
	turn := func(i int) int { return i }
	few := func(i int) int { return 2 + i%3%2 }
	end := func(i int) int { return 9 }
	mid := func(i int) int { return i / 7001 }
	return []api.Sink{
		spread(n, open), spread(n, out), spread(n, first, 1), spread(n, turn), spread(n, turn, 4, 7), spread(n, few, 1, 2),
		spread(n, turn, 1, 2, 3, 4, 5, 6, 7, last), spread(n, end, 1, 2, 3, 4, 5, 6, 7, 8), spread(n, mid, 5), spread(n, mid, 1, 2, 3, 4, 5, 6, 7, 9),
	}
}

func wrongNumbers() []int {
	return []int{-1, -2, -256, -last, last + 1, last + 2, 2 * last, 1 << 32, 1<<32 + 1, -1 << 32, 1<<33 + 5, math.MinInt, math.MinInt + 1, math.MaxInt, math.MaxInt - 1}
}

// wrongRows have numbers that may not be.
func wrongRows() []api.Sink {
	var l []api.Sink
	for _, n := range wrongNumbers() {
		l = append(l, of(nil, n, nil), of(row("x"), n, row("y")), numbered(n, 5), numbered(n, max(n, n+1)), numbered(n, last), numbered(0, n), numbered(5, n), numbered(0, 1, n), numbered(0, n, last), numbered(last, n))
	}
	for _, numbers := range [][]int{{0, 0}, {3, 3}, {3, 2}, {3, 1}, {last, last}, {last, 1}, {0, 1, 1}, {0, 2, 1}, {0, 5, 6, 6}, {0, 5, 6, 5}, {0, 5, 6, 1}, {4, 5, 4}, {0, last, last}, {5, 5, 6}, {5, 3, 6}, {5, 6, 3}, {1, 2, 3, 4, 0}} {
		l = append(l, numbered(numbers[0], numbers[1:]...))
	}
	rising := []int{1, 2, 3, 4, 5, 6, 7, 8}
	for i := range rising {
		same, down := slices.Clone(rising), slices.Clone(rising)
		same[i] = max(0, i)
		if i > 0 {
			down[i] = i - 1
		}
		l = append(l, numbered(0, same...))
		if i > 0 {
			l = append(l, numbered(0, down...))
		}
	}
	for _, n := range []int{9, 10, 16, 255, 256, 257, 264, 1 << 16} {
		many := api.Sink{}
		for i := range n {
			many.Stages = append(many.Stages, stage(i+1))
		}
		l = append(l, many)
	}
	return l
}

// wrongPlaces have one wrong result, in all lists and at all places of some sinks.
func wrongPlaces() []api.Sink {
	var l []api.Sink
	wrongs := wrongResults()
	base := of(row("abc"), 2, row("def"), stage(3, row("g")...), stage(5), stage(6, row("hij")...), stage(7, row("k")...), stage(8, row("l")...), stage(9, row("m")...), stage(10, row("n")...), stage(11, row("oq")...))
	for list := range lists(base) {
		for place := range lists(base)[list] {
			for _, wrong := range wrongs {
				s := copied(base)
				lists(s)[list][place] = wrong
				l = append(l, s)
			}
		}
	}
	return l
}

// wrongBig have too many results, or one wrong result among many.
func wrongBig() []api.Sink {
	l := append(filled(all+1), spread(2*all, func(i int) int { return i }), spread(1<<16+3, func(int) int { return 1 }))
	for i, s := range filled(all) {
		for k, results := range lists(s) {
			if len(results) > 0 {
				results[(len(results)-1)*((i+k)%2)] = wrongResults()[(i+k)%len(wrongResults())]
				break
			}
		}
		l = append(l, s)
	}
	return l
}

// fewWrong is one wrong sink of each kind.
func fewWrong() []api.Sink {
	nine := numbered(0, 1, 2, 3, 4, 5, 6, 7, 8, 9)
	return []api.Sink{
		of(nil, -1, nil), of(nil, last+1, nil), numbered(3, 3), numbered(3, 4, 4), numbered(3, 5, 4), numbered(0, 0), numbered(0, last+1), nine,
		of([]api.Result{{}}, 0, nil), of(nil, 0, []api.Result{{}}), of(nil, 0, nil, stage(1, api.Result{})), of(nil, 0, nil, stage(1), stage(2, named("x"), named(""))),
	}
}

func someCalls() []call {
	return []call{
		add(named("x")), add(named("")), set(1), set(4), set(10), set(last), set(last + 1), set(0), set(-1), set(math.MaxInt), set(math.MinInt),
		commit(0), commit(1), commit(3), commit(4), commit(5), commit(last), commit(last + 1), commit(-1), commit(math.MaxInt), commit(math.MinInt), abort(),
	}
}

func TestExamples(t *testing.T) {
	var s api.Sink
	for i, r := range []struct {
		calls []call
		out   string
		err   api.Errno
	}{
		{[]call{add(named("x")), set(1), add(named("y")), commit(1)}, "x", api.OK},
		{[]call{commit(1), set(3), add(named("z")), commit(3)}, "xy", api.OK},
		{[]call{abort(), commit(4)}, "xy", api.ErrStage},
	} {
		for k, c := range r.calls {
			o := c.do(s)
			want := api.OK
			if k == len(r.calls)-1 {
				want = r.err
			}
			if o.err != want {
				t.Errorf("row %d, %s: %s", i, c.told(), o.told())
			}
			if o.err == api.OK {
				s = o.s
			}
		}
		if !slices.Equal(s.Out, row(r.out)) {
			t.Errorf("row %d: %s", i, told(s))
		}
	}
	if !equalSinks(s, of(nil, 3, row("xy"))) {
		t.Errorf("in the end: %s", told(s))
	}
}

func TestP19_1Right(t *testing.T) {
	for _, s := range rightSinks() {
		checkRight(t, s, true)
	}
	for _, r := range someResults() {
		checkRight(t, of([]api.Result{r}, 0, nil), true)
		checkRight(t, of(nil, 0, []api.Result{r}), true)
		checkRight(t, of(nil, 0, nil, stage(1, r)), true)
	}
	for _, n := range []int{0, 1, 2, 255, 256, 1 << 16, last - 1, last} {
		checkRight(t, of(nil, n, nil), true)
		checkRight(t, numbered(n, n+1), n < last)
		checkRight(t, numbered(n, n), false)
		checkRight(t, numbered(0, n), n > 0)
		checkRight(t, numbered(0, 1, n), n > 1)
	}
	for n := range 20 {
		s := numbered(5)
		for i := range n {
			s.Stages = append(s.Stages, stage(10+i))
		}
		checkRight(t, s, n <= stages)
	}
	for _, s := range slices.Concat(filled(all), filled(all-1)) {
		checkRight(t, s, true)
	}
}

func TestP19_1RightWrong(t *testing.T) {
	for _, s := range slices.Concat(wrongRows(), wrongPlaces(), wrongBig(), fewWrong()) {
		checkRight(t, s, false)
	}
	// What lies in other lists does not help: each of the three has its own.
	for _, wrong := range wrongResults() {
		checkRight(t, of([]api.Result{wrong}, 0, nil), false)
		checkRight(t, of(nil, 0, []api.Result{wrong}), false)
		checkRight(t, of(nil, 0, nil, stage(1, wrong)), false)
	}
}

func TestP19_1Add(t *testing.T) {
	for _, s := range rightSinks() {
		for _, r := range someResults() {
			after := copied(s)
			after.Open = append(after.Open, r)
			yes(t, s, add(r), after)
		}
		for _, wrong := range wrongResults() {
			no(t, s, add(wrong), api.ErrArg)
		}
	}
	// The same one may come again, and comes at the end.
	s := of(row("x"), 1, row("x"), stage(2, row("x")...))
	yes(t, s, add(named("x")), of(row("xx"), 1, row("x"), stage(2, row("x")...)))
	yes(t, of(row("ba"), 0, nil), add(named("c")), of(row("bac"), 0, nil))
}

func TestP19_1AddFull(t *testing.T) {
	x := named("x")
	for i, s := range filled(all - 1) {
		after := copied(s)
		after.Open = append(after.Open, x)
		yes(t, s, add(x), after)
		no(t, after, add(x), api.ErrFull)
		no(t, after, add(someResults()[i%7]), api.ErrFull)
		// A wrong result is refused as such.
		no(t, after, add(wrongResults()[i]), api.ErrArg)
		no(t, s, add(wrongResults()[i]), api.ErrArg)
	}
	for _, s := range filled(all) {
		no(t, s, add(x), api.ErrFull)
	}
	// Too much is not full.
	for _, s := range filled(all + 1) {
		no(t, s, add(x), api.ErrArg)
	}
	// One more fits only once there is room again.
	s := spread(all, func(i int) int { return i }, 1, 2)
	freed, _ := Abort(s)
	check(t, freed, add(x), add(x).due(freed))
	if o := add(x).do(freed); o.err != api.OK || len(o.s.Open) != 1 {
		t.Error(o.told())
	}
	counted, _ := Commit(s, 2)
	no(t, counted, add(x), api.ErrFull)
}

func TestP19_2Stage(t *testing.T) {
	for _, n := range []int{1, 2, 255, 256, 65536, last - 1, last} {
		yes(t, api.Sink{}, set(n), of(nil, 0, nil, stage(n)))
		yes(t, of(row("xy"), 0, row("z")), set(n), of(nil, 0, row("z"), stage(n, row("xy")...)))
		yes(t, of(row("xy"), n-1, row("z")), set(n), of(nil, n-1, row("z"), stage(n, row("xy")...)))
		no(t, of(row("xy"), n, row("z")), set(n), api.ErrStage)
		no(t, of(row("xy"), 0, row("z"), stage(n)), set(n), api.ErrStage)
		if n > 1 {
			yes(t, of(row("x"), 0, nil, stage(n-1, row("y")...)), set(n), of(nil, 0, nil, stage(n-1, row("y")...), stage(n, row("x")...)))
			no(t, of(row("xy"), 0, row("z"), stage(n)), set(n-1), api.ErrStage)
		}
		if n > 2 {
			// It is not enough that a stage lies below it.
			no(t, of(row("xy"), 0, row("z"), stage(n-2), stage(n)), set(n-1), api.ErrStage)
			no(t, of(row("xy"), 0, row("z"), stage(1), stage(n)), set(n), api.ErrStage)
		}
	}
	// What came for the stages before stays there.
	s := of(row("c"), 3, row("z"), stage(5, row("a")...), stage(6, row("b")...))
	yes(t, s, set(9), of(nil, 3, row("z"), stage(5, row("a")...), stage(6, row("b")...), stage(9, row("c")...)))
}

func TestP19_2Errors(t *testing.T) {
	eight := numbered(3, 4, 5, 6, 7, 8, 9, 10, 20)
	for _, n := range wrongNumbers() {
		for _, s := range slices.Concat(rightSinks(), []api.Sink{eight}) {
			if n > last {
				no(t, s, set(n), api.ErrArg)
			} else {
				no(t, s, set(n), api.ErrStage)
			}
		}
	}
	no(t, api.Sink{}, set(0), api.ErrStage)
	// What there is of a number counts more than that there is no room.
	for n := range 100 {
		if n <= 20 {
			no(t, eight, set(n), api.ErrStage)
		} else {
			no(t, eight, set(n), api.ErrFull)
		}
	}
	no(t, eight, set(last), api.ErrFull)
	no(t, eight, set(last+1), api.ErrArg)
	no(t, numbered(3, 4, 5, 6, 7, 8, 9, 10, last), set(last), api.ErrStage)
	no(t, numbered(last), set(last), api.ErrStage)
	no(t, numbered(last), set(last+1), api.ErrArg)
	// Seven leave room for one.
	seven := numbered(3, 4, 5, 6, 7, 8, 9, 10)
	after := copied(seven)
	after.Stages, after.Open = append(after.Stages, stage(11, row("op")...)), nil
	yes(t, seven, set(11), after)
}

// All results that there may be go into a stage too.
func TestP19_2Filled(t *testing.T) {
	for _, s := range filled(all) {
		n := min(last, s.Last+1)
		if len(s.Stages) > 0 {
			n = min(last, s.Stages[len(s.Stages)-1].N+1)
		}
		check(t, s, set(n), set(n).due(s))
		check(t, s, commit(5), commit(5).due(s))
		check(t, s, commit(1), commit(1).due(s))
		check(t, s, abort(), abort().due(s))
	}
	s := of(some(all, 0), 0, nil)
	yes(t, s, set(1), of(nil, 0, nil, stage(1, some(all, 0)...)))
	yes(t, of(nil, 0, nil, stage(1, some(all, 0)...)), commit(1), of(nil, 1, some(all, 0)))
}

func TestP19_3Commit(t *testing.T) {
	s := of(row("o"), 3, row("z"), stage(5, row("ab")...), stage(6), stage(9, row("c")...), stage(12, row("de")...))
	for n, want := range map[int]api.Sink{
		5:  of(row("o"), 5, row("zab"), s.Stages[1:]...),
		6:  of(row("o"), 6, row("zab"), s.Stages[2:]...),
		9:  of(row("o"), 9, row("zabc"), s.Stages[3:]...),
		12: of(row("o"), 12, row("zabcde")),
	} {
		yes(t, s, commit(n), want)
		yes(t, want, commit(n), want)
	}
	for _, n := range []int{4, 7, 8, 10, 11, 13, 14, 255, 256 + 5, 256 + 9, 1<<16 + 5, last - 1, last, last + 1, last + 5, 1<<32 + 5, 1<<32 + 12, math.MaxInt, math.MaxInt - 1} {
		no(t, s, commit(n), api.ErrStage)
	}
	for _, n := range []int{3, 2, 1, 0, -1, -5, -last, -1<<32 + 5, -1<<32 + 12, math.MinInt, math.MinInt + 5} {
		yes(t, s, commit(n), s)
	}
}

func TestP19_3Edges(t *testing.T) {
	for _, n := range wrongNumbers() {
		for _, s := range rightSinks() {
			if n > last {
				no(t, s, commit(n), api.ErrStage)
			} else {
				yes(t, s, commit(n), s)
			}
		}
	}
	for _, s := range rightSinks() {
		yes(t, s, commit(s.Last), s)
		yes(t, s, commit(0), s)
		for i, st := range s.Stages {
			want := copied(s)
			want.Stages, want.Last = want.Stages[i+1:], st.N
			for _, counts := range s.Stages[:i+1] {
				want.Out = append(want.Out, counts.Results...)
			}
			yes(t, s, commit(st.N), want)
			if i+1 < len(s.Stages) && st.N+1 < s.Stages[i+1].N || i+1 == len(s.Stages) {
				no(t, s, commit(st.N+1), api.ErrStage)
			}
		}
	}
	yes(t, api.Sink{}, commit(0), api.Sink{})
	no(t, api.Sink{}, commit(1), api.ErrStage)
	no(t, of(nil, last, nil), commit(last+1), api.ErrStage)
	yes(t, numbered(last-1, last), commit(last), of(row("op"), last, row("q")))
	// What is open does not count, whatever is committed.
	yes(t, of(row("x"), 0, nil, stage(1)), commit(1), of(row("x"), 1, nil))
}

func TestP19_4(t *testing.T) {
	for _, s := range rightSinks() {
		yes(t, s, abort(), of(nil, s.Last, s.Out))
		yes(t, of(nil, s.Last, s.Out), abort(), of(nil, s.Last, s.Out))
	}
	s := of(row("o"), 3, row("z"), stage(5, row("ab")...), stage(last, row("c")...))
	yes(t, s, abort(), of(nil, 3, row("z")))
	// The numbers of the stages that are gone may come again.
	s, _ = Abort(s)
	yes(t, s, set(4), of(nil, 3, row("z"), stage(4)))
	yes(t, s, set(5), of(nil, 3, row("z"), stage(5)))
	no(t, s, set(3), api.ErrStage)
	no(t, s, commit(5), api.ErrStage)
}

// A wrong sink is refused ahead of everything else, by each call.
func TestErrArgFirst(t *testing.T) {
	for _, s := range slices.Concat(wrongRows(), fewWrong()) {
		for _, c := range someCalls() {
			no(t, s, c, api.ErrArg)
		}
		no(t, s, commit(s.Last), api.ErrArg)
	}
	for i, s := range wrongPlaces() {
		for _, c := range []call{add(named("x")), set(12), commit(3), commit(11), abort(), commit(-i), set(-i)} {
			no(t, s, c, api.ErrArg)
		}
	}
	for i, s := range wrongBig() {
		no(t, s, []call{add(named("x")), set(last), commit(1), commit(0), abort()}[i%5], api.ErrArg)
		no(t, s, abort(), api.ErrArg)
	}
}

func TestAllCalls(t *testing.T) {
	seen := map[api.Errno]int{}
	for _, s := range rightSinks() {
		for _, c := range someCalls() {
			want := c.due(s)
			check(t, s, c, want)
			seen[want.err]++
		}
	}
	for _, err := range []api.Errno{api.OK, api.ErrArg, api.ErrStage, api.ErrFull} {
		if seen[err] < 5 {
			t.Errorf("%v", seen)
		}
	}
}

// past is a row of calls and how each of them ended.
type past struct {
	calls []call
	errs  []api.Errno
}

func (p past) with(c call, err api.Errno) past {
	return past{calls: append(slices.Clip(p.calls), c), errs: append(slices.Clip(p.errs), err)}
}

// next is the first call behind a place that did something and has this name, and whether there is one ahead of the next Abort.
func (p past) next(from int, name string, least int) (at int, found bool) {
	for at := from; at < len(p.calls); at++ {
		if c := p.calls[at]; p.errs[at] == api.OK {
			if c.name == name && c.n >= least {
				return at, true
			}
			if c.name == "Abort" {
				break
			}
		}
	}
	return 0, false
}

// out is what P19.5 asks to be in Out: of all that was added, what was in a stage that was committed.
func (p past) out() []api.Result {
	var l []api.Result
	for i, c := range p.calls {
		if c.name != "Add" || p.errs[i] != api.OK {
			continue
		}
		at, found := p.next(i+1, "Stage", 0)
		if !found {
			continue
		}
		if _, found = p.next(at+1, "Commit", p.calls[at].n); found {
			l = append(l, c.r)
		}
	}
	return l
}

func (p past) told() string {
	s := ""
	for i, c := range p.calls {
		s += c.told() + " (" + strconv.Itoa(int(p.errs[i])) + "), "
	}
	return s
}

// follow is one call more: what comes of it, and what P19.5 says of it.
func follow(t *testing.T, s api.Sink, p past, c call) (api.Sink, past) {
	t.Helper()
	before := copied(s)
	o := c.do(s)
	if want := c.due(before); !equalSinks(o.s, want.s) || o.err != want.err {
		t.Fatalf("%s%s: %s, want %s", p.told(), c.told(), o.told(), want.told())
	}
	if !equalSinks(before, s) {
		t.Fatalf("%s%s changed its argument", p.told(), c.told())
	}
	p = p.with(c, o.err)
	if o.err != api.OK {
		return s, p
	}
	if len(o.s.Out) < len(before.Out) || !slices.Equal(o.s.Out[:len(before.Out)], before.Out) {
		t.Fatalf("%s: Out had %s, and has %s", p.told(), toldResults(before.Out), toldResults(o.s.Out))
	}
	if c.name == "Commit" {
		if again := c.do(o.s); again.err != api.OK || !equalSinks(again.s, o.s) {
			t.Fatalf("%s, once more: %s", p.told(), again.told())
		}
	}
	return o.s, p
}

func holds(t *testing.T, s api.Sink, p past) {
	t.Helper()
	if want := p.out(); !slices.Equal(s.Out, want) {
		t.Fatalf("%s: Out is %s, want %s", p.told(), toldResults(s.Out), toldResults(want))
	}
}

// rows goes through all rows of so many calls, each Add with a result of its own.
func rows(t *testing.T, s api.Sink, p past, left, numbers int) {
	holds(t, s, p)
	if left == 0 {
		return
	}
	calls := []call{add(named(string(rune('a' + len(p.calls))))), abort()}
	for n := 1; n <= numbers; n++ {
		calls = append(calls, set(n), commit(n))
	}
	for _, c := range calls {
		after, more := follow(t, s, p, c)
		rows(t, after, more, left-1, numbers)
	}
}

func TestP19_5AllRows(t *testing.T) {
	rows(t, api.Sink{}, past{}, 5, 4)
	rows(t, api.Sink{}, past{}, 6, 2)
}

// random is the same row of numbers in each run.
type random uint64

func (r *random) below(n int) int {
	*r = *r*6364136223846793005 + 1442695040888963407
	return int(uint64(*r) >> 33 % uint64(n))
}

// call is one that mostly fits to the sink, which may gather more stages the greater wait is.
func (r *random) call(s api.Sink, number, dice, wait int) call {
	newest := s.Last
	if len(s.Stages) > 0 {
		newest = s.Stages[len(s.Stages)-1].N
	}
	switch d := r.below(dice); {
	case d == 0:
		return abort()
	case d < 4:
		return set(newest + r.below(4))
	case d < 7 && len(s.Stages) > wait:
		return commit(s.Stages[r.below(len(s.Stages))].N - r.below(2))
	case d == 7:
		return commit(s.Last + r.below(3) - 1)
	}
	return add(one("k"+strconv.Itoa(number%5), int64(number), int64(number+1), 1, int64(r.below(100))))
}

func TestP19_5LongRuns(t *testing.T) {
	seen := map[api.Errno]int{}
	var counted int
	for number := range 60 {
		by, s, p := random(number), api.Sink{}, past{}
		for i := range 200 {
			s, p = follow(t, s, p, by.call(s, i, []int{10, 14, 30, 8}[number%4], number%9))
			seen[p.errs[i]]++
		}
		holds(t, s, p)
		counted += len(s.Out)
	}
	if counted < 500 || seen[api.ErrStage] < 100 || seen[api.ErrFull] < 10 {
		t.Errorf("%d results count, %v", counted, seen)
	}
}

// Near the bounds, what counts takes room for ever, and what is aborted gives it back.
func TestP19_5Full(t *testing.T) {
	s, p := of(nil, last-3, some(all-3, 0)), past{}
	for i, step := range []struct {
		c   call
		err api.Errno
	}{
		{add(named("a")), api.OK}, {set(last - 2), api.OK}, {add(named("b")), api.OK}, {add(named("c")), api.OK}, {add(named("d")), api.ErrFull},
		{set(last), api.OK}, {commit(last - 2), api.OK}, {add(named("d")), api.ErrFull}, {abort(), api.OK}, {add(named("e")), api.OK},
		{set(last), api.OK}, {set(last), api.ErrStage}, {add(named("f")), api.OK}, {add(named("g")), api.ErrFull}, {commit(last), api.OK},
		{set(last), api.ErrStage}, {set(last + 1), api.ErrArg}, {add(named("g")), api.ErrFull}, {abort(), api.OK}, {add(named("h")), api.OK}, {commit(last), api.OK},
	} {
		s, p = follow(t, s, p, step.c)
		if p.errs[i] != step.err {
			t.Errorf("%s, want %d", p.told(), step.err)
		}
	}
	if want := append(some(all-3, 0), row("ae")...); !slices.Equal(s.Out, want) || !slices.Equal(p.out(), row("ae")) {
		t.Errorf("Out is %s", toldResults(s.Out))
	}
}
