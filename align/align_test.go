package align

import (
	"math"
	"slices"
	"strconv"
	"strings"
	"testing"

	"clepsydra/api"
	"clepsydra/item"
)

const (
	last = 1073741824 // the greatest number of a barrier
	room = 16
)

func barrier(n int) api.Item { return api.Item{Kind: api.KBarrier, N: n} }

func at(time int64) api.Item { return api.Item{Kind: api.KMark, Mark: time} }

func event(key string, time, value int64) api.Item {
	return api.Item{Kind: api.KEvent, Event: api.Event{Key: key, At: time, Val: value}}
}

func result(lo, hi, n int64) api.Item {
	return api.Item{Kind: api.KResult, Result: api.Result{Window: api.Window{Lo: lo, Hi: hi}, Key: "a", N: n, Val: -7}}
}

// got is the items of an input whose barrier is there; open is an input without.
func got(items ...api.Item) []api.Item { return append([]api.Item{}, items...) }

var open []api.Item

// of is an aligner, from the items of its inputs.
func of(n int, inputs ...[]api.Item) api.Aligner {
	a := api.Aligner{N: n}
	for _, items := range inputs {
		a.Got, a.Held = append(a.Got, items != nil), append(a.Held, items)
	}
	return a
}

func empty(inputs int) api.Aligner {
	return of(0, make([][]api.Item, inputs)...)
}

// someItems are of all kinds, at the bounds of their fields.
func someItems() []api.Item {
	return []api.Item{
		barrier(1), at(5), event("a", 5, -1), {Kind: api.KIdle}, barrier(2), result(0, 10, 1),
		at(0), at(api.Final), event(strings.Repeat("k", 16), api.Final-1, math.MinInt64), event("\x00", 0, math.MaxInt64),
		barrier(last - 1), barrier(last), result(api.Final-1, api.Final, last), barrier(256), barrier(3),
	}
}

// wrongItems are none of chapter 4's.
func wrongItems() []api.Item {
	mixed := []api.Item{barrier(1), at(1), {Kind: api.KIdle}, barrier(1), event("a", 5, 1), result(0, 10, 1)}
	mixed[0].Mark, mixed[1].N, mixed[2].Mark, mixed[3].Event.Key, mixed[4].Result.Val, mixed[5].N = 1, 1, 1, "a", 1, 1
	return append(mixed,
		api.Item{}, api.Item{Kind: -1}, api.Item{Kind: 6}, api.Item{Kind: 256 + api.KIdle}, api.Item{Kind: 1<<32 + api.KIdle}, api.Item{N: 1}, api.Item{Kind: math.MaxInt, N: 1},
		barrier(0), barrier(-1), barrier(last+1), barrier(2*last), barrier(1<<32), barrier(1<<32+1), barrier(math.MinInt), barrier(math.MaxInt),
		at(-1), at(api.Final+1), at(math.MinInt64), at(math.MaxInt64),
		event("", 5, 1), event(strings.Repeat("k", 17), 5, 1), event("a", -1, 1), event("a", api.Final, 1),
		result(5, 5, 1), result(-1, 5, 1), result(6, 5, 1), result(0, api.Final+1, 1), result(0, 5, 0), result(0, 5, last+1),
	)
}

// held is so many valid items, from a place on.
func held(n, from int) []api.Item {
	l, all := []api.Item{}, someItems()
	for i := range n {
		l = append(l, all[(from+i)%len(all)])
	}
	return l
}

func marks(n int, from int64) []api.Item {
	l := []api.Item{}
	for i := range n {
		l = append(l, at(from+int64(i)))
	}
	return l
}

// masked is an aligner of so many inputs; those of the mask have the barrier and hold as many items as the rule says.
func masked(inputs, mask, n int, many func(input int) int) api.Aligner {
	lists := make([][]api.Item, inputs)
	for i := range inputs {
		if mask>>i&1 == 1 {
			lists[i] = held(many(i), i+mask)
		}
	}
	return of(n, lists...)
}

func fills() []func(int) int {
	return []func(int) int{
		func(int) int { return 0 },
		func(int) int { return room },
		func(input int) int { return room - 1 - input%2 },
		func(input int) int { return (input*7 + 1) % (room + 1) },
	}
}

// rightAligners are all sets of inputs that may have the barrier.
func rightAligners() []api.Aligner {
	var l []api.Aligner
	numbers := []int{1, last, 2, 256, last - 1}
	for inputs := 1; inputs <= 8; inputs++ {
		l = append(l, empty(inputs))
		for mask := 1; mask < 1<<inputs-1; mask++ {
			for i, fill := range fills() {
				l = append(l, masked(inputs, mask, numbers[(mask+i)%len(numbers)], fill))
			}
		}
	}
	return l
}

func fewRight() []api.Aligner {
	return []api.Aligner{
		empty(1), empty(2), empty(8), of(1, got(), open), of(2, open, got(held(room, 3)...)), of(last, got(at(5)), open, got(barrier(7), at(8))),
		of(3, got(), got(held(room, 0)...), got(at(1)), open, got(), got(held(7, 4)...), got(), got(held(15, 9)...)),
	}
}

func wrongNumbers() []int {
	return []int{-1, -2, -last, last + 1, last + 2, 2 * last, 1 << 32, 1<<32 + 1, -1 << 32, 1<<33 + 5, math.MinInt, math.MinInt + 1, math.MaxInt, math.MaxInt - 1}
}

func wrongCounts() []int {
	return []int{0, 9, 10, 16, 255, 256, 256 + 1, 256 + 8, 1 << 16, 1<<16 + 2}
}

// wrongSizes have too few or too many inputs, or not as many lists as these.
func wrongSizes() []api.Aligner {
	l := []api.Aligner{{}, {Got: []bool{}, Held: [][]api.Item{}}, {N: 1}, {Got: []bool{false}}, {Held: [][]api.Item{nil}}, {Got: []bool{true}, N: 1}}
	for _, n := range wrongCounts() {
		some := empty(n)
		if n > 0 {
			some.N, some.Got[n-1] = 1, true
		}
		l = append(l, empty(n), some)
	}
	for inputs := 1; inputs <= 8; inputs++ {
		for other := range 10 {
			if other != inputs {
				a := empty(inputs)
				a.Held = make([][]api.Item, other)
				b := a
				b.N, b.Got = 1, append([]bool{true}, a.Got[1:]...)
				l = append(l, a, b)
			}
		}
	}
	return l
}

// wrongGots have a number that does not fit to what has arrived.
func wrongGots() []api.Aligner {
	var l []api.Aligner
	for inputs := 1; inputs <= 8; inputs++ {
		whole := 1<<inputs - 1
		for _, fill := range fills() {
			for mask := 1; mask <= whole; mask++ {
				l = append(l, masked(inputs, mask, 0, fill))
			}
			l = append(l, masked(inputs, whole, 1, fill), masked(inputs, whole, last, fill))
			for _, n := range wrongNumbers() {
				l = append(l, masked(inputs, 0, n, fill), masked(inputs, 1, n, fill), masked(inputs, whole/2, n, fill), masked(inputs, whole, n, fill))
			}
		}
		for _, n := range []int{1, 2, last} {
			l = append(l, masked(inputs, 0, n, fills()[0]))
		}
	}
	return l
}

// wrongHeld have one input that may not hold what it does.
func wrongHeld() []api.Aligner {
	var l []api.Aligner
	wrongs := wrongItems()
	for inputs := 2; inputs <= 8; inputs++ {
		for i := range inputs {
			mask := 1<<inputs - 1 - 1<<((i+1)%inputs)
			for _, many := range []int{room + 1, room + 2, 2 * room, 256, 256 + 5} {
				a := masked(inputs, mask, 1, fills()[3])
				a.Held[i] = marks(many, 0)
				l = append(l, a)
			}
			for w, wrong := range wrongs {
				a := masked(inputs, mask, 1, fills()[3])
				a.Held[i] = held(1+w%room, w)
				a.Held[i][(w*5)%len(a.Held[i])] = wrong
				l = append(l, a)
			}
			for _, many := range []int{1, 2, room, room + 1} {
				a, b := empty(inputs), masked(inputs, mask-1<<i, 1, fills()[0])
				a.Held[i], b.Held[i] = held(many, i+4), held(many, i)
				if inputs > 2 {
					l = append(l, b)
				}
				l = append(l, a)
			}
		}
	}
	for place := range room {
		for _, wrong := range wrongs {
			a := of(1, open, got(held(room, place)...))
			a.Held[1][place] = wrong
			l = append(l, a)
		}
	}
	return append(l, of(1, got(marks(1<<16+3, 0)...), open), of(0, got(at(5))), api.Aligner{Got: []bool{false}, Held: [][]api.Item{{at(5)}}})
}

func wrongAligners() []api.Aligner {
	return slices.Concat(wrongSizes(), wrongGots(), wrongHeld())
}

// fewWrong is one wrong aligner of each kind.
func fewWrong() []api.Aligner {
	return []api.Aligner{
		{}, empty(9), {Got: []bool{false, false}, Held: make([][]api.Item, 1)}, {Got: []bool{false, false}, Held: make([][]api.Item, 3)},
		of(1, open, open), of(0, got(), open), of(1, got(), got()), of(-1, got(), open), of(last+1, got(), open),
		of(1, got(marks(room+1, 0)...), open), of(1, got(api.Item{}), open), {N: 1, Got: []bool{true, false}, Held: [][]api.Item{nil, {at(5)}}},
	}
}

// valid is the chapter's word, by counts.
func valid(a api.Aligner) bool {
	arrived := 0
	for i, items := range a.Held {
		if len(a.Held) != len(a.Got) || len(items) > room {
			return false
		}
		for _, one := range items {
			if !item.Right(one) || !a.Got[i] {
				return false
			}
		}
		if a.Got[i] {
			arrived++
		}
	}
	if a.N == 0 {
		return len(a.Got) == len(a.Held) && 0 < len(a.Got) && len(a.Got) < 9 && arrived == 0
	}
	return len(a.Got) < 9 && 0 < arrived && arrived < len(a.Got) && 0 < a.N && a.N <= last
}

// outcome is all that Offer answers.
type outcome struct {
	a    api.Aligner
	pass bool
	n    int
	late []api.Late
	err  api.Errno
}

// copied has lists of its own, and room for one more item.
func copied(a api.Aligner) api.Aligner {
	b := api.Aligner{N: a.N, Got: append([]bool{}, a.Got...)}
	for _, items := range a.Held {
		b.Held = append(b.Held, got(items...))
	}
	return b
}

// offered is P18.2, worked out apart from the package.
func offered(a api.Aligner, input int, i api.Item) outcome {
	if !valid(a) || !item.Right(i) || input < 0 || input > len(a.Got)-1 {
		return outcome{err: api.ErrArg}
	}
	after := copied(a)
	if a.Got[input] {
		if after.Held[input] = append(after.Held[input], i); len(after.Held[input]) > room {
			return outcome{err: api.ErrFull}
		}
		return outcome{a: after}
	}
	if i.Kind != api.KBarrier {
		return outcome{a: after, pass: true}
	}
	if after.N = i.N; a.N*i.N != a.N*a.N {
		return outcome{err: api.ErrStage}
	}
	after.Got[input] = true
	arrived := 0
	var late []api.Late
	for j, there := range after.Got {
		if there {
			arrived++
		}
		for _, one := range a.Held[j] {
			late = append(late, api.Late{Input: j, Item: one})
		}
	}
	if arrived == len(a.Got) {
		return outcome{a: empty(arrived), n: i.N, late: late}
	}
	return outcome{a: after}
}

func equalAligners(a, b api.Aligner) bool {
	return a.N == b.N && slices.Equal(a.Got, b.Got) && slices.EqualFunc(a.Held, b.Held, slices.Equal[[]api.Item])
}

func (o outcome) equal(p outcome) bool {
	return equalAligners(o.a, p.a) && o.pass == p.pass && o.n == p.n && slices.Equal(o.late, p.late) && o.err == p.err
}

func toldItem(i api.Item) string {
	bytes, e := item.Put(i)
	if e != api.OK {
		return "wrong/" + strconv.Itoa(i.Kind) + "/" + strconv.Itoa(i.N)
	}
	return strconv.Quote(bytes)
}

func told(a api.Aligner) string {
	s := "{N " + strconv.Itoa(a.N) + ", " + strconv.Itoa(len(a.Got)) + " got, " + strconv.Itoa(len(a.Held)) + " held:"
	for _, is := range a.Got[:min(len(a.Got), 9)] {
		s += " " + strconv.FormatBool(is)
	}
	for _, items := range a.Held[:min(len(a.Held), 9)] {
		s += " (" + strconv.Itoa(len(items)) + ":"
		for _, i := range items[:min(len(items), 5)] {
			s += " " + toldItem(i)
		}
		s += ")"
	}
	return s + "}"
}

func (o outcome) told() string {
	s := told(o.a) + ", " + strconv.FormatBool(o.pass) + ", " + strconv.Itoa(o.n) + ", " + strconv.Itoa(len(o.late)) + ":"
	for _, l := range o.late[:min(len(o.late), 9)] {
		s += " " + strconv.Itoa(l.Input) + " " + toldItem(l.Item)
	}
	return s + ", error " + strconv.Itoa(int(o.err))
}

// spare is what lies behind a list in the tests, within its capacity; no call may write there.
func spare[T any](l []T, more ...T) []T {
	own := make([]T, len(l), len(l)+len(more))
	copy(own, l)
	copy(own[len(l):cap(own)], more)
	return own
}

func behind[T any](l []T) []T { return l[len(l):cap(l)] }

func spareItems() []api.Item { return []api.Item{at(77), barrier(77), at(78)} }

// roomy shares nothing with the aligner it is a copy of, and has room behind its lists.
func roomy(a api.Aligner) api.Aligner {
	b := api.Aligner{N: a.N, Got: spare(a.Got, true, false, true, false)}
	for _, items := range a.Held {
		b.Held = append(b.Held, spare(items, spareItems()...))
	}
	b.Held = spare(b.Held, spareItems(), spareItems())
	return b
}

// untouched tells whether a roomy copy is as it was.
func untouched(before, a api.Aligner) bool {
	if !equalAligners(before, a) || !slices.Equal(behind(a.Got), []bool{true, false, true, false}) {
		return false
	}
	for _, items := range a.Held {
		if !slices.Equal(behind(items), spareItems()) {
			return false
		}
	}
	return slices.EqualFunc(behind(a.Held), [][]api.Item{spareItems(), spareItems()}, slices.Equal[[]api.Item])
}

// scratch changes all that a list has, and what lies behind it.
func scratch[T any](l []T, with T) {
	for i := range l[:cap(l)] {
		l[:cap(l)][i] = with
	}
}

// alone scratches all lists of an answer, and tells whether a list changed with another one.
func alone(a api.Aligner) bool {
	right := true
	for i, items := range a.Held {
		after := copied(a)
		scratch(items, at(99))
		after.Held[i] = items
		right = right && equalAligners(after, a)
	}
	scratch(a.Got, true)
	scratch(a.Held, got(at(99)))
	return right
}

func checkOffer(t *testing.T, a api.Aligner, input int, i api.Item, want outcome) {
	t.Helper()
	mine := roomy(a)
	var is outcome
	is.a, is.pass, is.n, is.late, is.err = Offer(mine, input, i)
	if !is.equal(want) || is.err == api.OK && !Right(is.a) {
		t.Errorf("Offer(%s, %d, %s): %s, want %s", told(a), input, toldItem(i), is.told(), want.told())
	}
	if !alone(is.a) {
		t.Errorf("Offer(%s, %d, %s): the lists of the answer share", told(a), input, toldItem(i))
	}
	scratch(is.late, api.Late{Input: 9})
	if !untouched(a, mine) {
		t.Errorf("Offer(%s, %d, %s): the argument has changed, or changes with the answer: %s", told(a), input, toldItem(i), told(mine))
	}
}

func noOffer(t *testing.T, a api.Aligner, input int, i api.Item, err api.Errno) {
	t.Helper()
	checkOffer(t, a, input, i, outcome{err: err})
}

func checkRight(t *testing.T, a api.Aligner, want bool) {
	t.Helper()
	mine := roomy(a)
	if got := Right(mine); got != want || valid(a) != want {
		t.Errorf("Right(%s): %t, want %t", told(a), got, want)
	}
	if !untouched(a, mine) {
		t.Errorf("Right(%s) changed it", told(a))
	}
}

func checkRoom(t *testing.T, a api.Aligner, input, want int) {
	t.Helper()
	mine := roomy(a)
	if got := Room(mine, input); got != want {
		t.Errorf("Room(%s, %d): %d, want %d", told(a), input, got, want)
	}
	if !untouched(a, mine) {
		t.Errorf("Room(%s, %d) changed it", told(a), input)
	}
}

func noInputs(n int) []int {
	return []int{-1, -2, -n, n, n + 1, n + 7, 8, 9, 255, 256, 256 + n - 1, -256, 1 << 16, 1 << 32, 1<<32 + n - 1, -1 << 32, math.MinInt, math.MaxInt}
}

func TestExamples(t *testing.T) {
	a, err := New(2)
	if err != api.OK {
		t.Fatal(err)
	}
	for _, row := range []struct {
		input int
		i     api.Item
		want  outcome
	}{
		{0, barrier(1), outcome{a: of(1, got(), open)}},
		{0, at(5), outcome{a: of(1, got(at(5)), open)}},
		{1, at(4), outcome{a: of(1, got(at(5)), open), pass: true}},
		{1, barrier(2), outcome{err: api.ErrStage}},
		{1, barrier(1), outcome{a: empty(2), n: 1, late: []api.Late{{Input: 0, Item: at(5)}}}},
	} {
		checkOffer(t, a, row.input, row.i, row.want)
		if row.want.err == api.OK {
			a, _, _, _, _ = Offer(a, row.input, row.i)
		}
	}
	if !equalAligners(a, empty(2)) {
		t.Errorf("in the end: %s", told(a))
	}
}

func TestP18_1Right(t *testing.T) {
	for _, a := range slices.Concat(rightAligners(), fewRight()) {
		checkRight(t, a, true)
	}
	// One item of each kind, wherever it stands.
	for i, one := range someItems() {
		for inputs := 2; inputs <= 8; inputs++ {
			a := masked(inputs, 1, 1+i, fills()[0])
			a.Held[0] = got(one)
			checkRight(t, a, true)
		}
	}
	for n := range 40 {
		checkRight(t, of(1, open, got(marks(n, 0)...)), n <= room)
		checkRight(t, of(1, got(marks(n, 0)...), got(), open), n <= room)
	}
}

func TestP18_1RightWrong(t *testing.T) {
	for _, a := range slices.Concat(wrongAligners(), fewWrong()) {
		checkRight(t, a, false)
	}
	for _, n := range append(wrongNumbers(), 0) {
		checkRight(t, of(n, got(), open), false)
		checkRight(t, empty(1), true)
	}
	for _, n := range append(wrongNumbers(), 1, last) {
		checkRight(t, of(n, open), false)
		checkRight(t, of(n, got()), false)
		checkRight(t, of(n, open, open), false)
	}
	// Nothing is held by an empty list either.
	checkRight(t, api.Aligner{Got: []bool{false}, Held: [][]api.Item{{}}}, true)
	checkRight(t, api.Aligner{N: 1, Got: []bool{true, false}, Held: [][]api.Item{nil, {}}}, true)
}

func TestP18_1New(t *testing.T) {
	for n := 1; n <= 8; n++ {
		a, err := New(n)
		if !equalAligners(a, empty(n)) || err != api.OK || !Right(a) {
			t.Errorf("New(%d): %s, %d", n, told(a), err)
		}
		if !alone(a) {
			t.Errorf("New(%d): lists share", n)
		}
		if again, _ := New(n); !equalAligners(again, empty(n)) {
			t.Errorf("New(%d) again: %s", n, told(again))
		}
	}
	for _, n := range append(wrongCounts(), -1, -8, -256+1, 1<<32, 1<<32+1, 1<<32+8, -1<<32+1, math.MinInt, math.MinInt+1, math.MaxInt, math.MaxInt-1) {
		if a, err := New(n); !equalAligners(a, api.Aligner{}) || err != api.ErrArg {
			t.Errorf("New(%d): %s, %d", n, told(a), err)
		}
	}
}

func TestP18_2Holds(t *testing.T) {
	for _, one := range someItems() {
		checkOffer(t, of(1, got(), open), 0, one, outcome{a: of(1, got(one), open)})
		checkOffer(t, of(9, open, got(at(5), barrier(3)), got(at(6))), 1, one, outcome{a: of(9, open, got(at(5), barrier(3), one), got(at(6)))})
	}
	// As many as it may, each behind the others; a barrier takes a place too.
	for _, one := range someItems() {
		for n := range room {
			checkOffer(t, of(1, got(marks(n, 3)...), got(at(9)), open), 0, one, outcome{a: of(1, append(marks(n, 3), one), got(at(9)), open)})
			checkOffer(t, of(1, open, got(held(n, 3)...)), 1, one, outcome{a: of(1, open, append(held(n, 3), one))})
		}
		for _, full := range [][]api.Item{marks(room, 3), held(room, 7), slices.Repeat(got(barrier(1)), room)} {
			noOffer(t, of(1, got(full...), got(), open), 0, one, api.ErrFull)
			noOffer(t, of(1, got(), open, got(full...)), 2, one, api.ErrFull)
			// It is the input's own room that counts.
			checkOffer(t, of(1, got(full...), got(), open), 1, one, outcome{a: of(1, got(full...), got(one), open)})
		}
	}
}

func TestP18_2Passes(t *testing.T) {
	for _, one := range someItems() {
		if one.Kind == api.KBarrier {
			continue
		}
		for _, a := range []api.Aligner{empty(2), of(1, open, got()), of(last, open, got(held(room, 0)...)), of(5, open, open, got(at(5)))} {
			checkOffer(t, a, 0, one, outcome{a: a, pass: true})
		}
		checkOffer(t, empty(1), 0, one, outcome{a: empty(1), pass: true})
		for inputs := 1; inputs <= 8; inputs++ {
			for i := range inputs {
				checkOffer(t, empty(inputs), i, one, outcome{a: empty(inputs), pass: true})
			}
		}
	}
}

func TestP18_2Barriers(t *testing.T) {
	for _, n := range []int{1, 2, 3, 255, 256, 65536, last - 1, last} {
		checkOffer(t, empty(1), 0, barrier(n), outcome{a: empty(1), n: n})
		checkOffer(t, empty(2), 1, barrier(n), outcome{a: of(n, open, got())})
		checkOffer(t, empty(3), 0, barrier(n), outcome{a: of(n, got(), open, open)})
		checkOffer(t, of(n, got(at(1)), open, open), 2, barrier(n), outcome{a: of(n, got(at(1)), open, got())})
		checkOffer(t, of(n, got(), open), 1, barrier(n), outcome{a: empty(2), n: n})
		// What waited comes input by input, in its order, whatever the last input is.
		lists := [][]api.Item{got(at(9), barrier(n), at(3)), got(), got(barrier(1), at(8))}
		for i := range 4 {
			all := slices.Insert(slices.Clone(lists), i, open)
			want := outcome{a: empty(4), n: n}
			for j, items := range all {
				for _, one := range items {
					want.late = append(want.late, api.Late{Input: j, Item: one})
				}
			}
			if len(want.late) != 5 {
				t.Fatal(want.late)
			}
			checkOffer(t, of(n, all...), i, barrier(n), want)
		}
		for _, other := range []int{1, 2, 3, 255, 256, 65536, 65537, last - 1, last} {
			if other == n {
				continue
			}
			noOffer(t, of(n, got(), open), 1, barrier(other), api.ErrStage)
			noOffer(t, of(n, got(at(5)), open, open), 1, barrier(other), api.ErrStage)
			// Where it is held it may have any number.
			checkOffer(t, of(n, got(), open), 0, barrier(other), outcome{a: of(n, got(barrier(other)), open)})
		}
	}
	// As much as there can be.
	full, want := make([][]api.Item, 8), outcome{a: empty(8), n: 4}
	for i := range 7 {
		full[i] = marks(room, int64(100*i))
		for _, one := range full[i] {
			want.late = append(want.late, api.Late{Input: i, Item: one})
		}
	}
	checkOffer(t, of(4, full...), 7, barrier(4), want)
}

func TestP18_2AllAligners(t *testing.T) {
	seen := map[api.Errno]int{}
	var passed, whole, waited int
	items := someItems()
	for k, a := range rightAligners() {
		for input := range a.Got {
			other := items[(k+input)%len(items)]
			for _, i := range []api.Item{barrier(max(a.N, 1)), barrier(a.N/2 + 1), at(int64(k)), other} {
				want := offered(a, input, i)
				checkOffer(t, a, input, i, want)
				seen[want.err]++
				waited += len(want.late)
				whole += min(want.n, 1)
				if want.pass {
					passed++
				}
			}
		}
	}
	if seen[api.OK] < 10000 || seen[api.ErrFull] < 1000 || seen[api.ErrStage] < 1000 || passed < 1000 || waited < 1000 || whole < 100 {
		t.Errorf("%v, passed %d, waited %d, whole %d", seen, passed, waited, whole)
	}
}

// All that can be reached by a few offers, and each answer on the way.
func TestP18_2AllRows(t *testing.T) {
	items := []api.Item{barrier(1), barrier(2), at(5)}
	for _, c := range []struct{ inputs, length int }{{1, 6}, {2, 6}, {3, 5}, {4, 4}} {
		states := []api.Aligner{empty(c.inputs)}
		for range c.length {
			var after []api.Aligner
			for _, a := range states {
				for input := range c.inputs {
					for _, i := range items {
						want := offered(a, input, i)
						checkOffer(t, a, input, i, want)
						if want.err == api.OK && !want.pass {
							after = append(after, want.a)
						}
					}
				}
			}
			states = after
		}
	}
}

// Wrong arguments are refused ahead of what the item would do.
func TestP18_2Wrong(t *testing.T) {
	items := someItems()
	for _, a := range fewRight() {
		for input := range a.Got {
			for _, wrong := range wrongItems() {
				noOffer(t, a, input, wrong, api.ErrArg)
			}
		}
		for _, input := range noInputs(len(a.Got)) {
			if 0 <= input && input < len(a.Got) {
				continue
			}
			for _, i := range items {
				noOffer(t, a, input, i, api.ErrArg)
			}
			noOffer(t, a, input, api.Item{}, api.ErrArg)
		}
	}
	for k, a := range wrongAligners() {
		for _, input := range []int{0, len(a.Got) - 1} {
			noOffer(t, a, input, items[k%len(items)], api.ErrArg)
			noOffer(t, a, input, barrier(max(1, min(a.N, last))), api.ErrArg)
			noOffer(t, a, input, at(5), api.ErrArg)
		}
	}
	for _, a := range fewWrong() {
		for _, input := range []int{-1, 0, 1, 2, 8, math.MinInt, math.MaxInt} {
			noOffer(t, a, input, at(5), api.ErrArg)
			noOffer(t, a, input, api.Item{}, api.ErrArg)
		}
	}
	// Neither a full input nor another barrier is looked at before.
	full := of(1, got(held(room, 0)...), open)
	for _, wrong := range wrongItems() {
		noOffer(t, full, 0, wrong, api.ErrArg)
		noOffer(t, full, 1, wrong, api.ErrArg)
	}
	noOffer(t, full, 2, barrier(2), api.ErrArg)
}

func TestP18_3(t *testing.T) {
	for n := range room + 1 {
		for _, a := range []api.Aligner{of(1, got(marks(n, 0)...), open), of(last, got(held(n, 2)...), open, got(held(room-n, 5)...))} {
			checkRoom(t, a, 0, room-n)
			checkRoom(t, a, 1, room)
			if len(a.Got) == 3 {
				checkRoom(t, a, 2, n)
			}
		}
	}
	for _, a := range slices.Concat(rightAligners(), fewRight()) {
		for input, items := range a.Held {
			checkRoom(t, a, input, room-len(items))
		}
	}
}

func TestP18_3Wrong(t *testing.T) {
	for _, a := range fewRight() {
		for _, input := range noInputs(len(a.Got)) {
			if input < 0 || input >= len(a.Got) {
				checkRoom(t, a, input, 0)
			}
		}
	}
	for _, a := range slices.Concat(wrongAligners(), fewWrong()) {
		for input := -1; input < 4; input++ {
			checkRoom(t, a, input, 0)
		}
		checkRoom(t, a, len(a.Got)-1, 0)
		checkRoom(t, a, len(a.Got), 0)
	}
}

// An input has room as long as Offer does not answer ErrFull.
func TestP18_3Offers(t *testing.T) {
	for _, a := range rightAligners() {
		for input := range a.Got {
			left := Room(a, input)
			if _, _, _, _, err := Offer(a, input, at(5)); (err == api.ErrFull) != (left == 0) {
				t.Errorf("Room(%s, %d): %d, and Offer: %d", told(a), input, left, err)
			}
		}
	}
}

// stream is what has become of the items of an input: next is the number of those that were offered for the first time.
type stream struct {
	items  []api.Item
	next   int
	passed []api.Item
}

// run is the items of some inputs on their way through an aligner; again is what it gave back and is still to be offered again.
type run struct {
	a       api.Aligner
	streams []stream
	again   []api.Late
}

func started(streams [][]api.Item) run {
	r := run{a: empty(len(streams))}
	for _, items := range streams {
		r.streams = append(r.streams, stream{items: items})
	}
	return r
}

func (r run) copied() run {
	r.streams, r.again = slices.Clone(r.streams), slices.Clone(r.again)
	for i, s := range r.streams {
		r.streams[i].passed = slices.Clone(s.passed)
	}
	return r
}

// free tells whether an input's next item may be offered: it has one, and room, and none of its items is to be offered again.
func (r run) free(input int) bool {
	s := r.streams[input]
	waits := slices.ContainsFunc(r.again, func(l api.Late) bool { return l.Input == input })
	return s.next < len(s.items) && !waits && Room(r.a, input) > 0
}

// choices are the inputs whose next item may be offered, and -1 for the first one that is offered again.
func (r run) choices() []int {
	var l []int
	if len(r.again) > 0 {
		l = append(l, -1)
	}
	for input := range r.streams {
		if r.free(input) {
			l = append(l, input)
		}
	}
	return l
}

func (r *run) pick(choice int) api.Late {
	if choice < 0 {
		l := r.again[0]
		r.again = r.again[1:]
		return l
	}
	s := &r.streams[choice]
	s.next++
	return api.Late{Input: choice, Item: s.items[s.next-1]}
}

func (r *run) step(t *testing.T, choice int) (n int, err api.Errno) {
	t.Helper()
	l := r.pick(choice)
	a, pass, n, late, err := Offer(r.a, l.Input, l.Item)
	if err != api.OK {
		return 0, err
	}
	if s := &r.streams[l.Input]; pass {
		s.passed = append(s.passed, l.Item)
	}
	// What has waited now was offered ahead of what is still to be offered again.
	r.a, r.again = a, append(late, r.again...)
	if n > 0 {
		r.cut(t, n)
		r.whole(t)
	}
	return n, api.OK
}

// cut holds that exactly what precedes a barrier on its inputs has passed.
func (r run) cut(t *testing.T, n int) {
	t.Helper()
	for input, s := range r.streams {
		var want []api.Item
		for _, i := range s.items[:slices.Index(s.items, barrier(n))] {
			if i.Kind != api.KBarrier {
				want = append(want, i)
			}
		}
		if !slices.Equal(s.passed, want) {
			t.Fatalf("barrier %d, input %d: %d items have passed, want %d", n, input, len(s.passed), len(want))
		}
	}
}

// whole holds that each item of an input has passed, or is held, or is to be offered again, or to be offered; and this in its order.
func (r run) whole(t *testing.T) {
	t.Helper()
	for input, s := range r.streams {
		all := slices.Concat(s.passed, withoutBarriers(r.a.Held[input]))
		for _, l := range r.again {
			if l.Input == input {
				all = append(all, withoutBarriers([]api.Item{l.Item})...)
			}
		}
		all = append(all, withoutBarriers(s.items[s.next:])...)
		if !slices.Equal(all, withoutBarriers(s.items)) {
			t.Fatalf("input %d: %d items, want %d, at %s", input, len(all), len(withoutBarriers(s.items)), told(r.a))
		}
	}
}

func withoutBarriers(l []api.Item) []api.Item {
	return slices.DeleteFunc(slices.Clone(l), func(i api.Item) bool { return i.Kind == api.KBarrier })
}

// ways goes on in all ways: ended is how many of them end with everything offered, stage how many at ErrStage.
func (r run) ways(t *testing.T) (ended, stage int) {
	t.Helper()
	choices := r.choices()
	if len(choices) == 0 {
		r.end(t)
		return 1, 0
	}
	for _, c := range choices {
		next := r.copied()
		switch _, err := next.step(t, c); err {
		case api.OK:
			next.whole(t)
			e, s := next.ways(t)
			ended, stage = ended+e, stage+s
		case api.ErrStage:
			stage++
		default:
			t.Fatalf("%s: %d", told(r.a), err)
		}
	}
	return ended, stage
}

// end holds that nothing is held for ever when the same barriers have come on all inputs.
func (r run) end(t *testing.T) {
	t.Helper()
	for input, s := range r.streams {
		if s.next < len(s.items) {
			t.Fatalf("input %d stays behind %d of %d items, at %s", input, s.next, len(s.items), told(r.a))
		}
	}
}

// streamOf is items of an input from letters: a digit is that barrier, anything else a mark of its own.
func streamOf(input int, text string) []api.Item {
	var l []api.Item
	for place, c := range []byte(text) {
		if '1' <= c && c <= '9' {
			l = append(l, barrier(int(c-'0')))
		} else {
			l = append(l, at(int64(100*input+place)))
		}
	}
	return l
}

func streamsOf(texts []string) [][]api.Item {
	var l [][]api.Item
	for input, text := range texts {
		l = append(l, streamOf(input, text))
	}
	return l
}

func TestP18_4AllWays(t *testing.T) {
	for _, texts := range [][]string{
		{"x1x2x"}, {"11"}, {"x1x", "x1x"}, {"1xx2x", "xx1x2"}, {"12x3", "12x3"}, {"123", "1x2x3"}, {"x1x2x", "12"}, {"x", "x1"},
		{"1x2", "1x2", "1x2"}, {"12x", "12x", "x12"}, {"x1", "1x", "x1x"}, {"12", "12", "12x"}, {"1x", "1x", "1", "1x"}, {"12", "12", "1x", "1"},
	} {
		ended, stage := started(streamsOf(texts)).ways(t)
		if ended == 0 || stage > 0 {
			t.Errorf("%q: %d ways end, %d at ErrStage", texts, ended, stage)
		}
	}
}

// Where the barriers are others, the promise holds as far as no error comes.
func TestP18_4OtherBarriers(t *testing.T) {
	for _, texts := range [][]string{{"1x2", "2x1"}, {"x1", "2x"}, {"1x3x", "1x2x"}, {"1x2", "1x2", "1x3"}} {
		if _, stage := started(streamsOf(texts)).ways(t); stage == 0 {
			t.Errorf("%q: no way ends at ErrStage", texts)
		}
	}
}

// random is the same row of numbers in each run.
type random uint64

func (r *random) below(n int) int {
	*r = *r*6364136223846793005 + 1442695040888963407
	return int(uint64(*r) >> 33 % uint64(n))
}

// long is a stream of so many barriers, with up to so many items ahead of each of them.
func (r *random) long(input, barriers, between int) []api.Item {
	var l []api.Item
	for n := range barriers {
		for range r.below(between + 1) {
			l = append(l, event("k"+strconv.Itoa(input), int64(len(l)), int64(r.below(100))))
		}
		l = append(l, barrier(n+1))
	}
	return append(l, at(int64(input)))
}

// through offers items in an order by chance, till all have passed; it counts the calls at which an input was full.
func through(t *testing.T, r run, by *random) (done, full int) {
	t.Helper()
	for {
		choices := r.choices()
		if len(choices) == 0 {
			break
		}
		for input := range r.streams {
			if Room(r.a, input) == 0 {
				full++
				if _, _, _, _, err := Offer(r.a, input, at(5)); err != api.ErrFull {
					t.Fatalf("a full input: %d", err)
				}
			}
		}
		n, err := r.step(t, choices[by.below(len(choices))])
		if err != api.OK || n > 0 && n != done+1 {
			t.Fatalf("behind barrier %d: %d, error %d", done, n, err)
		}
		done = max(done, n)
	}
	r.end(t)
	for input, s := range r.streams {
		if !slices.Equal(s.passed, withoutBarriers(s.items)) {
			t.Errorf("input %d: %d items have passed of %d", input, len(s.passed), len(withoutBarriers(s.items)))
		}
	}
	return done, full
}

// Long runs: inputs wait as long as they are full, and everything passes once.
func TestP18_4LongRuns(t *testing.T) {
	var filled int
	for number := range 64 {
		by := random(number)
		barriers, between := 12, []int{0, 1, 6, 30}[number%4]
		var streams [][]api.Item
		for input := range 1 + number/8 {
			streams = append(streams, by.long(input, barriers, between))
		}
		done, full := through(t, started(streams), &by)
		if done != barriers {
			t.Errorf("run %d: %d barriers are whole", number, done)
		}
		filled += full
	}
	if filled < 100 {
		t.Errorf("inputs were full only %d times", filled)
	}
}
