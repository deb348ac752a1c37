package job

import (
	"fmt"
	"math"
	"math/big"
	"regexp"
	"slices"
	"strings"
	"testing"

	"clepsydra/api"
)

const (
	least    = math.MinInt64
	greatest = math.MaxInt64
)

// good is a job that is valid, and goodText its text.
func good() api.Job {
	return api.Job{Groups: 2, Size: 10, Slide: 5, Fold: api.Sum, Limit: 3, Fuel: 4, Delay: 2}
}

const goodText = "groups 2\nwindow 10 5\nfold sum\nloop 3 4\ndelay 2\nidle 0\n"

// judged is a value with what the chapter says of it.
type judged[T any] struct {
	value T
	valid bool
}

func judgedGroups() []judged[int] {
	return []judged[int]{{1, true}, {2, true}, {31, true}, {32, true}, {0, false}, {33, false}, {-1, false}, {1<<32 + 2, false}, {least, false}, {greatest, false}}
}

// judgedWindows are sizes and slides as chapter 5 judges them.
func judgedWindows() []judged[[2]int64] {
	return []judged[[2]int64]{
		{[2]int64{10, 5}, true}, {[2]int64{1, 1}, true}, {[2]int64{16, 1}, true}, {[2]int64{10, 10}, true}, {[2]int64{1 << 20, 1 << 20}, true}, {[2]int64{1 << 20, 1 << 16}, true},
		{[2]int64{0, 0}, false}, {[2]int64{10, 0}, false}, {[2]int64{0, 1}, false}, {[2]int64{10, 11}, false}, {[2]int64{17, 1}, false},
		{[2]int64{1<<20 + 1, 1 << 20}, false}, {[2]int64{1 << 20, 1<<16 - 1}, false}, {[2]int64{10, -5}, false}, {[2]int64{-10, 5}, false}, {[2]int64{-5, -10}, false},
		{[2]int64{greatest, greatest}, false}, {[2]int64{least, least}, false}, {[2]int64{10, 1<<60 + 1}, false}, {[2]int64{16, least}, false},
	}
}

func judgedFolds() []judged[int] {
	return []judged[int]{{1, true}, {2, true}, {3, true}, {4, true}, {5, true}, {0, false}, {6, false}, {-1, false}, {1<<32 + 1, false}, {least, false}, {greatest, false}}
}

func judgedLimits() []judged[int64] {
	return []judged[int64]{{3, true}, {0, true}, {1, true}, {1 << 32, true}, {greatest - 1, true}, {greatest, true}, {-1, false}, {least, false}}
}

func judgedFuels() []judged[int] {
	return []judged[int]{{4, true}, {0, true}, {1, true}, {39, true}, {40, true}, {41, false}, {-1, false}, {1<<32 + 1, false}, {least, false}, {greatest, false}}
}

func judgedDelays() []judged[int64] {
	return []judged[int64]{{2, true}, {0, true}, {1, true}, {1<<40 - 1, true}, {1 << 40, true}, {1<<40 + 1, false}, {-1, false}, {least, false}, {greatest, false}}
}

func judgedIdles() []judged[int] {
	return []judged[int]{{0, true}, {1, true}, {1<<20 - 1, true}, {1 << 20, true}, {1<<20 + 1, false}, {-1, false}, {1<<32 + 1, false}, {least, false}, {greatest, false}}
}

// fields are what a job is put together from.
type fields struct {
	groups  judged[int]
	window  judged[[2]int64]
	fold    judged[int]
	limit   judged[int64]
	fuel    judged[int]
	delay   judged[int64]
	idle    judged[int]
	changed int
}

func (f fields) job() judged[api.Job] {
	j := api.Job{Groups: f.groups.value, Size: f.window.value[0], Slide: f.window.value[1], Fold: f.fold.value, Fuel: f.fuel.value, Limit: f.limit.value, Delay: f.delay.value, Idle: f.idle.value}
	return judged[api.Job]{j, f.groups.valid && f.window.valid && f.fold.valid && f.limit.valid && f.fuel.valid && f.delay.valid && f.idle.valid}
}

// vary answers the jobs of a list, each with each of a field's values besides its own; but no more than most fields of a job change.
func vary[T any](l []fields, most int, values []judged[T], set func(f *fields, v judged[T])) []fields {
	all := slices.Clone(l)
	for _, f := range l {
		if f.changed == most {
			continue
		}
		for _, v := range values[1:] {
			next := f
			set(&next, v)
			next.changed++
			all = append(all, next)
		}
	}
	return all
}

// jobs are those in which up to most fields differ from what comes first among their values.
func jobs(most int) []judged[api.Job] {
	l := []fields{{
		groups: judgedGroups()[0], window: judgedWindows()[0], fold: judgedFolds()[0], limit: judgedLimits()[0],
		fuel: judgedFuels()[0], delay: judgedDelays()[0], idle: judgedIdles()[0],
	}}
	l = vary(l, most, judgedGroups(), func(f *fields, v judged[int]) { f.groups = v })
	l = vary(l, most, judgedWindows(), func(f *fields, v judged[[2]int64]) { f.window = v })
	l = vary(l, most, judgedFolds(), func(f *fields, v judged[int]) { f.fold = v })
	l = vary(l, most, judgedLimits(), func(f *fields, v judged[int64]) { f.limit = v })
	l = vary(l, most, judgedFuels(), func(f *fields, v judged[int]) { f.fuel = v })
	l = vary(l, most, judgedDelays(), func(f *fields, v judged[int64]) { f.delay = v })
	l = vary(l, most, judgedIdles(), func(f *fields, v judged[int]) { f.idle = v })
	var all []judged[api.Job]
	for _, f := range l {
		all = append(all, f.job())
	}
	return all
}

func TestP13_1Right(t *testing.T) {
	for _, j := range jobs(4) {
		if got := Right(j.value); got != j.valid {
			t.Fatalf("Right(%+v) = %v, want %v", j.value, got, j.valid)
		}
	}
	if !Right(good()) || Right(api.Job{}) {
		t.Error("Right tells a valid job from the zero one wrongly")
	}
}

// validWindow is chapter 5's 'valid' in numbers without end.
func validWindow(size, slide int64) bool {
	product := new(big.Int).Mul(big.NewInt(slide), big.NewInt(16))
	return slide >= 1 && slide <= size && size <= 1<<20 && big.NewInt(size).Cmp(product) <= 0
}

func TestP13_1RightWindows(t *testing.T) {
	for size := int64(-2); size <= 70; size++ {
		for slide := int64(-2); slide <= 72; slide++ {
			j := good()
			j.Size, j.Slide = size, slide
			if got, want := Right(j), validWindow(size, slide); got != want {
				t.Errorf("Right with windows %d %d = %v, want %v", size, slide, got, want)
			}
		}
	}
}

func event(key string, at, val int64) api.Event { return api.Event{Key: key, At: at, Val: val} }

func validEvents() []api.Event {
	return []api.Event{
		event("a", 0, 0), event("a", 5, -1), event("b", 1<<40-1, greatest), event("\x00\xff", 3, least),
		event(strings.Repeat("k", 16), 7, 1), event("a b\n", 2, 2),
	}
}

func wrongEvents() []api.Event {
	return []api.Event{
		{}, event("", 5, 1), event(strings.Repeat("k", 17), 5, 1), event(strings.Repeat("k", 5000), 5, 1),
		event("a", -1, 1), event("a", 1<<40, 1), event("a", least, 1), event("a", greatest, 1),
	}
}

// several are n valid events.
func several(n int) []api.Event {
	valid := validEvents()
	var l []api.Event
	for i := range n {
		l = append(l, valid[i%len(valid)])
	}
	return l
}

func checkInputs(t *testing.T, l [][]api.Event, want bool) {
	t.Helper()
	var before [][]api.Event
	var sizes []int
	for _, events := range l {
		before = append(before, slices.Clone(events))
		sizes = append(sizes, len(events))
	}
	if got := Inputs(l); got != want {
		t.Errorf("Inputs of %d lists, of %v events, = %v, want %v", len(l), sizes, got, want)
	}
	if !slices.EqualFunc(l, before, slices.Equal[[]api.Event]) {
		t.Errorf("Inputs changes %v to %v", before, l)
	}
}

func TestP13_1InputsNumbers(t *testing.T) {
	for lists := range 8 {
		right := lists >= 1 && lists <= 4
		checkInputs(t, make([][]api.Event, lists), right)
		for _, n := range []int{0, 1, 2, 6, 100, 199, 200, 201, 202, 400, 1000} {
			var l [][]api.Event
			for range lists {
				l = append(l, several(n))
			}
			checkInputs(t, l, right && n <= 200)
		}
	}
	checkInputs(t, nil, false)
	checkInputs(t, [][]api.Event{}, false)
	checkInputs(t, [][]api.Event{{}, nil}, true)
}

// One list that is too long makes the inputs wrong, wherever it stands.
func TestP13_1InputsOneTooLong(t *testing.T) {
	for lists := 1; lists <= 4; lists++ {
		for place := range lists {
			for _, others := range []int{0, 1, 200} {
				l := make([][]api.Event, lists)
				for i := range l {
					l[i] = several(others)
				}
				l[place] = several(200)
				checkInputs(t, l, true)
				l[place] = several(201)
				checkInputs(t, l, false)
			}
		}
	}
}

// One event that is not valid makes the inputs wrong, wherever it stands.
func TestP13_1InputsOneWrongEvent(t *testing.T) {
	for lists := 1; lists <= 4; lists++ {
		for place := range lists {
			for _, at := range []int{0, 1, 99, 198, 199} {
				for _, wrong := range wrongEvents() {
					l := make([][]api.Event, lists)
					l[place] = several(200)
					l[place][at] = wrong
					checkInputs(t, l, false)
					l[place][at] = event("a", 5, 1)
					checkInputs(t, l, true)
				}
			}
		}
	}
	for _, e := range validEvents() {
		checkInputs(t, [][]api.Event{{e}}, true)
	}
	for _, e := range wrongEvents() {
		checkInputs(t, [][]api.Event{{e}}, false)
	}
}

// byHand are valid jobs with texts that were written from the chapter by hand.
func byHand() map[string]api.Job {
	return map[string]api.Job{
		goodText: good(),
		"groups 1\nwindow 1 1\nfold count\nloop 0 0\ndelay 0\nidle 0\n":                                                  {Groups: 1, Size: 1, Slide: 1, Fold: 1},
		"groups 32\nwindow 1048576 65536\nfold spread\nloop 9223372036854775807 40\ndelay 1099511627776\nidle 1048576\n": {Groups: 32, Size: 1 << 20, Slide: 1 << 16, Fold: 5, Limit: greatest, Fuel: 40, Delay: 1 << 40, Idle: 1 << 20},
		"groups 10\nwindow 100 20\nfold least\nloop 7 30\ndelay 405\nidle 60\n":                                          {Groups: 10, Size: 100, Slide: 20, Fold: 3, Limit: 7, Fuel: 30, Delay: 405, Idle: 60},
		"groups 3\nwindow 16 1\nfold greatest\nloop 1000000 1\ndelay 1\nidle 9\n":                                        {Groups: 3, Size: 16, Slide: 1, Fold: 4, Limit: 1000000, Fuel: 1, Delay: 1, Idle: 9},
	}
}

// folds are the words for the folds, by their numbers.
func folds() []string { return []string{"", "count", "sum", "least", "greatest", "spread"} }

// spelt is the chapter's 'text of a job', written apart from the package.
func spelt(j api.Job) string {
	return fmt.Sprintf("groups %d\nwindow %d %d\nfold %s\nloop %d %d\ndelay %d\nidle %d\n", j.Groups, j.Size, j.Slide, folds()[j.Fold], j.Limit, j.Fuel, j.Delay, j.Idle)
}

func TestP13_1Print(t *testing.T) {
	for want, j := range byHand() {
		if got, err := Print(j); got != want || err != api.OK {
			t.Errorf("Print(%+v) = %q, %d, want %q", j, got, err, want)
		}
	}
	for _, j := range jobs(3) {
		if !j.valid {
			continue
		}
		if got, err := Print(j.value); got != spelt(j.value) || err != api.OK {
			t.Fatalf("Print(%+v) = %q, %d, want %q", j.value, got, err, spelt(j.value))
		}
	}
}

func TestP13_1PrintNotValid(t *testing.T) {
	for _, j := range append(jobs(3), judged[api.Job]{}) {
		if got, err := Print(j.value); !j.valid && (got != "" || err != api.ErrJob) {
			t.Fatalf("Print(%+v) = %q, %d, want nothing and ErrJob", j.value, got, err)
		}
	}
}

func checkParsed(t *testing.T, s string, want api.Job) {
	t.Helper()
	if got, err, k := Parse(s); got != want || err != api.OK || k != 0 {
		t.Errorf("Parse(%.200q) = %+v, %d, %d, want %+v", s, got, err, k, want)
	}
}

func checkLine(t *testing.T, s string, line int) {
	t.Helper()
	if got, err, k := Parse(s); got != (api.Job{}) || err != api.ErrLine || k != line {
		t.Errorf("Parse(%.200q) = %+v, %d, %d, want ErrLine, %d", s, got, err, k, line)
	}
}

func checkNoJob(t *testing.T, s string) {
	t.Helper()
	if got, err, k := Parse(s); got != (api.Job{}) || err != api.ErrJob || k != 0 {
		t.Errorf("Parse(%.200q) = %+v, %d, %d, want ErrJob, 0", s, got, err, k)
	}
}

func TestP13_2Parse(t *testing.T) {
	for s, want := range byHand() {
		checkParsed(t, s, want)
	}
	for _, j := range jobs(3) {
		if j.valid {
			checkParsed(t, spelt(j.value), j.value)
		}
	}
}

func TestP13_2ByHand(t *testing.T) {
	checkLine(t, "", 1)
	checkLine(t, "groups 2\nwindow 10\n", 2)
	checkLine(t, "groups 2\nwindow 10\nfold sum\nloop 3 4\ndelay 2\nidle 0\n", 2)
	checkNoJob(t, "groups 0\nwindow 10 5\nfold sum\nloop 3 4\ndelay 2\nidle 0\n")
}

// with is goodText with another text in place of its k-th line and that line's end.
func with(k int, line string) string {
	lines := strings.SplitAfter(goodText, "\n")
	lines[k-1] = line
	return strings.Join(lines, "")
}

// wrongNumbers have not the form of a number up to 2^63 - 1, and none of them holds a line's end.
func wrongNumbers() []string {
	return []string{
		"", " ", "-", "+", "-1", "+1", "-0", "+0", "00", "01", "007", "1.0", "1.", ".1", "1e1", "0x1", "0b1", "0o1", "0_1", "1_0", "1,0", "a", "1a", "a1", "x",
		" 1", "1 ", "\t1", "1\t", "1\r", "\r", "\x001", "1\x00", "\xff", "\u0661", "\uff11", "\u00b2", "1\u00a0", "Inf", "NaN", "1 2 3",
		"9223372036854775808", "9223372036854775809", "9999999999999999999", "10000000000000000000", "18446744073709551615", "18446744073709551616", "18446744073709551617", "18446744073709551618",
		"09223372036854775807", "-9223372036854775808", "92233720368547758070", "340282366920938463463374607431768211457", strings.Repeat("9", 5000), strings.Repeat("0", 5000), "1" + strings.Repeat("0", 300),
	}
}

// wrongWords stand where the word of a line is due.
func wrongWords(word string) []string {
	return []string{
		"", " ", word[1:], word[:len(word)-1], word + "s", word + " ", " " + word, "\t" + word, strings.ToUpper(word), strings.ToUpper(word[:1]) + word[1:],
		word + word, word + ":", word + "\t", word + "\x00", "\x00" + word, "\xef\xbb\xbf" + word, "#" + word, "workers", "source",
	}
}

// wrongLines are texts that are not the k-th line, each with its end.
func wrongLines(k int) []string {
	word := []string{"groups", "window", "fold", "loop", "delay", "idle"}[k-1]
	l := []string{"\n", " \n", word + "\n", word + " \n", "\r\n", "groups\n", "x\n"}
	if k != 3 {
		l = append(l, word+" sum\n", word+" 10 sum\n", word+" sum 5\n")
	}
	for _, w := range wrongWords(word) {
		l = append(l, w+" 2\n", w+" 10 5\n", w+" sum\n")
	}
	for _, n := range wrongNumbers() {
		switch k {
		case 1, 5, 6:
			l = append(l, word+" "+n+"\n", word+" 1 "+n+"\n")
		case 2, 4:
			l = append(l, word+" "+n+" 5\n", word+" 10 "+n+"\n", word+" "+n+" "+n+"\n", word+" 10 5 "+n+"\n", word+" 10\t5\n", word+" 10  5\n")
		case 3:
			l = append(l, word+" "+n+"\n", word+" sum "+n+"\n", word+" "+n+" sum\n")
		}
	}
	return l
}

func TestP13_2WrongLines(t *testing.T) {
	for k := 1; k <= 6; k++ {
		for _, line := range wrongLines(k) {
			checkLine(t, with(k, line), k)
			// What stands behind the wrong line does not count, nor does whether the job would be valid.
			head, _, _ := strings.Cut(with(k, "\x01"), "\x01")
			checkLine(t, head+line, k)
			checkLine(t, head+line+"x", k)
			checkLine(t, head+line+goodText+goodText, k)
			checkLine(t, strings.Replace(head, "groups 2\n", "groups 0\n", 1)+line, k)
		}
	}
}

func TestP13_2FoldWords(t *testing.T) {
	for kind, word := range folds()[1:] {
		want := good()
		want.Fold = kind + 1
		checkParsed(t, with(3, "fold "+word+"\n"), want)
		for _, wrong := range wrongWords(word) {
			checkLine(t, with(3, "fold "+wrong+"\n"), 3)
		}
		for end := range len(word) {
			checkLine(t, with(3, "fold "+word[:end]+"\n"), 3)
			checkLine(t, with(3, "fold "+word[end+1:]+"\n"), 3)
		}
		for _, other := range folds()[1:] {
			checkLine(t, with(3, "fold "+word+other+"\n"), 3)
			checkLine(t, with(3, "fold "+word+" "+other+"\n"), 3)
		}
	}
	for _, wrong := range []string{"0", "1", "2", "5", "min", "max", "avg", "mean", "total", "none", "\x00", "sum\x00", "su", "counts"} {
		checkLine(t, with(3, "fold "+wrong+"\n"), 3)
	}
}

// Lines that are missing, twice there, or in another order are wrong where the first one of another form stands.
func TestP13_2WrongOrder(t *testing.T) {
	lines := strings.SplitAfter(goodText, "\n")[:6]
	for i := range 6 {
		checkLine(t, strings.Join(slices.Delete(slices.Clone(lines), i, i+1), ""), i+1)
		checkLine(t, strings.Join(slices.Insert(slices.Clone(lines), i, lines[i]), ""), i+2)
		checkLine(t, strings.Join(lines[:i], ""), i+1)
		checkLine(t, strings.Join(lines[:i], "")+"\n"+strings.Join(lines[i:], ""), i+1)
		for k := range i {
			swapped := slices.Clone(lines)
			swapped[i], swapped[k] = swapped[k], swapped[i]
			checkLine(t, strings.Join(swapped, ""), k+1)
		}
	}
}

// Of two wrong lines the first one is told.
func TestP13_2FirstWrongLine(t *testing.T) {
	lines := strings.SplitAfter(goodText, "\n")[:6]
	for i := range 6 {
		for k := range i {
			wrong := slices.Clone(lines)
			wrong[i], wrong[k] = "x\n", "y\n"
			checkLine(t, strings.Join(wrong, "")+"z", k+1)
		}
	}
}

// A text that ends within a line is wrong in that line, even if only its end is missing.
func TestP13_2NotTerminated(t *testing.T) {
	for s := range byHand() {
		for end := range len(s) {
			checkLine(t, s[:end], strings.Count(s[:end], "\n")+1)
		}
	}
	for k := 1; k <= 6; k++ {
		lines := strings.SplitAfter(goodText, "\n")
		head, line := strings.Join(lines[:k-1], ""), strings.TrimSuffix(lines[k-1], "\n")
		for _, end := range []string{"", " ", "\r", "\r\n", "\x00", "\x00\n", "\v", "\f", "\u0085", "\u2028", "/", "\\n"} {
			checkLine(t, head+line+end, k)
			checkLine(t, head+line+end+strings.Join(lines[k:], ""), k)
		}
		checkLine(t, head+line+"\n\r", k+1)
	}
}

func TestP13_2SomethingFollows(t *testing.T) {
	for _, behind := range []string{"x", "\n", " ", "\x00", "\xff", "\r", "\n\n", "idle 0\n", "groups 2\n", "workers 1\n", goodText, strings.Repeat("\n", 100)} {
		for s := range byHand() {
			checkLine(t, s+behind, 7)
		}
		// A job that is not valid is told behind all lines.
		checkLine(t, with(1, "groups 0\n")+behind, 7)
		checkLine(t, with(6, "idle 1048577\n")+behind, 7)
	}
}

// Numbers up to 2^63 - 1 have the form, so what is wrong with them is the job.
func TestP13_2NoJob(t *testing.T) {
	for _, j := range jobs(3) {
		if negative := min(int64(j.value.Groups), j.value.Size, j.value.Slide, j.value.Limit, int64(j.value.Fuel), j.value.Delay, int64(j.value.Idle)) < 0; j.valid || negative {
			continue
		}
		if kind := j.value.Fold; kind < 1 || kind > 5 {
			continue
		}
		checkNoJob(t, spelt(j.value))
	}
	for _, n := range []string{"9223372036854775807", "9223372036854775806", "4294967296", "4294967297", "4294967298", "8589934594", "2147483648", "2147483647", "1000000000000000000"} {
		checkNoJob(t, with(1, "groups "+n+"\n"))
		checkNoJob(t, with(2, "window "+n+" 5\n"))
		checkNoJob(t, with(2, "window 10 "+n+"\n"))
		checkNoJob(t, with(2, "window "+n+" "+n+"\n"))
		checkNoJob(t, with(4, "loop 3 "+n+"\n"))
		checkNoJob(t, with(6, "idle "+n+"\n"))
	}
	for _, n := range []string{"9223372036854775807", "9223372036854775806", "1099511627777"} {
		checkNoJob(t, with(5, "delay "+n+"\n"))
	}
}

// A wrong line counts ahead of a job that is not valid, even if that is known from a line above it.
func TestP13_2LineAheadOfJob(t *testing.T) {
	wrong := []string{"", "groups 33\n", "window 17 1\n", "", "loop 3 41\n", "delay 1099511627777\n", "idle 1048577\n"}
	for k, line := range wrong {
		if line == "" {
			continue
		}
		checkNoJob(t, with(k, line))
		for last := range 6 {
			lines := strings.SplitAfter(with(k, line), "\n")
			lines[last] = "x\n"
			checkLine(t, strings.Join(lines, ""), last+1)
		}
	}
}

// oracleForms are the chapter's lines as patterns.
var oracleForms = [...]*regexp.Regexp{
	regexp.MustCompile(`\Agroups (0|[1-9][0-9]*)\z`),
	regexp.MustCompile(`\Awindow (0|[1-9][0-9]*) (0|[1-9][0-9]*)\z`),
	regexp.MustCompile(`\Afold (count|sum|least|greatest|spread)\z`),
	regexp.MustCompile(`\Aloop (0|[1-9][0-9]*) (0|[1-9][0-9]*)\z`),
	regexp.MustCompile(`\Adelay (0|[1-9][0-9]*)\z`),
	regexp.MustCompile(`\Aidle (0|[1-9][0-9]*)\z`),
}

// oracleNumbers are the numbers of a line of the right form, in numbers without end; a fold's word counts as its number.
func oracleNumbers(k int, line string) []*big.Int {
	var l []*big.Int
	for _, text := range oracleForms[k-1].FindStringSubmatch(line)[1:] {
		if n, ok := new(big.Int).SetString(text, 10); ok {
			l = append(l, n)
		} else {
			l = append(l, big.NewInt(int64(slices.Index(folds(), text))))
		}
	}
	return l
}

func tooGreat(k int, line string) bool {
	return slices.ContainsFunc(oracleNumbers(k, strings.TrimSuffix(line, "\n")), func(n *big.Int) bool { return !n.IsInt64() })
}

// oracle is P13.2, by patterns and numbers without end.
func oracle(s string) (api.Job, api.Errno, int) {
	var n []int64
	for k := 1; k <= 6; k++ {
		line, rest, ended := strings.Cut(s, "\n")
		if !ended || !oracleForms[k-1].MatchString(line) || tooGreat(k, line) {
			return api.Job{}, api.ErrLine, k
		}
		for _, number := range oracleNumbers(k, line) {
			n = append(n, number.Int64())
		}
		s = rest
	}
	if s != "" {
		return api.Job{}, api.ErrLine, 7
	}
	groups, size, slide, kind, limit, fuel, delay, idle := n[0], n[1], n[2], n[3], n[4], n[5], n[6], n[7]
	if groups < 1 || groups > 32 || !validWindow(size, slide) || fuel > 40 || delay > 1<<40 || idle > 1<<20 {
		return api.Job{}, api.ErrJob, 0
	}
	return api.Job{Groups: int(groups), Size: size, Slide: slide, Fold: int(kind), Limit: limit, Fuel: int(fuel), Delay: delay, Idle: int(idle)}, api.OK, 0
}

// near hands over texts that differ from s in one place: each byte is left out, doubled, and followed and replaced by each other one.
func near(s string, use func(s string)) {
	use(s)
	for i := range len(s) + 1 {
		for b := range 256 {
			use(s[:i] + string([]byte{byte(b)}) + s[i:])
			if i < len(s) {
				use(s[:i] + string([]byte{byte(b)}) + s[i+1:])
			}
		}
		if i < len(s) {
			use(s[:i] + s[i+1:])
		}
		for _, text := range []string{"\n\n", "  ", "00", " 0", "0 ", "\n0", "sum", "groups ", "9223372036854775807"} {
			use(s[:i] + text + s[i:])
		}
	}
}

func TestP13_2NearTexts(t *testing.T) {
	for s := range byHand() {
		near(s, func(s string) {
			job, no, k := Parse(s)
			if want, err, line := oracle(s); job != want || no != err || k != line {
				t.Fatalf("Parse(%q) = %+v, %d, %d, want %+v, %d, %d", s, job, no, k, want, err, line)
			}
		})
	}
}

// Texts that are long in any part are read to their end, or told wrong, as short ones are.
func TestP13_2LongTexts(t *testing.T) {
	const n = 1 << 20
	for _, b := range []string{"0", "1", "9", " ", "\n", "a", "\x00", "\xff"} {
		long := strings.Repeat(b, n)
		for k := 1; k <= 6; k++ {
			head, tail, _ := strings.Cut(with(k, "\x01"), "\x01")
			for _, s := range []string{head + long, head + long + tail, head + "groups " + long + "\n" + tail, head + "window 1 " + long + "\n" + tail, head + "fold " + long + "\n" + tail} {
				checkLine(t, s, k)
			}
		}
		checkLine(t, goodText+long, 7)
	}
}

func TestP13_3ParseOfPrint(t *testing.T) {
	count := 0
	for _, j := range jobs(4) {
		if !j.valid {
			continue
		}
		count++
		s, err := Print(j.value)
		if got, errBack, k := Parse(s); got != j.value || err != api.OK || errBack != api.OK || k != 0 {
			t.Fatalf("Parse of Print of %+v = %+v, %d, %d", j.value, got, errBack, k)
		}
	}
	if count < 1000 {
		t.Errorf("only %d jobs are valid", count)
	}
}

func TestP13_3PrintOfParse(t *testing.T) {
	count := 0
	for s := range byHand() {
		near(s, func(s string) {
			j, err, _ := Parse(s)
			if err != api.OK {
				return
			}
			count++
			if got, err := Print(j); got != s || err != api.OK {
				t.Fatalf("Print of Parse of %q = %q, %d", s, got, err)
			}
		})
	}
	if count < 100 {
		t.Errorf("only %d texts are of jobs", count)
	}
}

// R1: no call keeps anything that another one could tell.
func TestR1SameAgain(t *testing.T) {
	for range 3 {
		checkLine(t, "x", 1)
		checkParsed(t, goodText, good())
		checkNoJob(t, with(1, "groups 0\n"))
		checkParsed(t, goodText, good())
		if s, err := Print(good()); s != goodText || err != api.OK {
			t.Errorf("Print = %q, %d", s, err)
		}
	}
}
