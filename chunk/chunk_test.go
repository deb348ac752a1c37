package chunk

import (
	"math"
	"slices"
	"strconv"
	"strings"
	"testing"

	"clepsydra/api"
)

const (
	groups = 32
	chunks = 512
	size   = 256
	all    = 131072 // the most bytes of a group
)

// letters are made once, since most tests cut their bytes off them.
var letters = many(2 * all)

// many is so many bytes, with each byte that there is among them, of which no two parts of a group are equal.
func many(n int) string {
	var s strings.Builder
	for i := 0; s.Len() < n; i++ {
		s.Write([]byte{byte(i), byte(i >> 8), byte(i*37 ^ i>>5)})
	}
	return s.String()[:n]
}

func text(n int) string { return letters[:n] }

func piece(group, no, of int, bytes string) api.Chunk {
	return api.Chunk{Group: group, No: no, Of: of, Bytes: bytes}
}

// whole is the chunk of this number where the last one of so many has so many bytes.
func whole(group, no, of, last int) api.Chunk {
	from := no * size
	to := min(from+size, (of-1)*size+last)
	return piece(group, no, of, text(to)[from:])
}

func gather(group, of int, got ...api.Chunk) api.Gather {
	return api.Gather{Group: group, Of: of, Got: got}
}

// some is a gather that has chunks of these numbers.
func some(group, of, last int, numbers ...int) api.Gather {
	g := gather(group, of)
	for _, no := range numbers {
		g.Got = append(g.Got, whole(group, no, of, last))
	}
	return g
}

// row is the numbers from a first one up to an end.
func row(from, to int) []int {
	var l []int
	for n := from; n < to; n++ {
		l = append(l, n)
	}
	return l
}

func without(l []int, n int) []int {
	return slices.DeleteFunc(slices.Clone(l), func(x int) bool { return x == n })
}

// subset is those of the numbers below n whose bits are set.
func subset(n, bits int) []int {
	return slices.DeleteFunc(row(0, n), func(no int) bool { return bits>>no&1 == 0 })
}

func validChunk(c api.Chunk) bool {
	if c.Group < 0 || c.Group > groups-1 || c.Of < 1 || c.Of > chunks || c.No < 0 || c.No > c.Of-1 {
		return false
	}
	least := size
	if c.No+1 == c.Of {
		least = 1
	}
	if c.Of == 1 {
		least = 0
	}
	return least <= len(c.Bytes) && len(c.Bytes) <= size
}

func validGather(g api.Gather) bool {
	if g.Group < 0 || g.Group > groups-1 || g.Of < 0 || g.Of > chunks {
		return false
	}
	if g.Of == 0 {
		return len(g.Got) == 0
	}
	wrong := slices.IndexFunc(g.Got, func(c api.Chunk) bool { return !validChunk(c) || c.Group != g.Group || c.Of != g.Of })
	for i := 1; i < len(g.Got); i++ {
		if g.Got[i-1].No >= g.Got[i].No {
			return false
		}
	}
	return wrong < 0
}

// copied has a list of its own.
func copied(g api.Gather) api.Gather {
	return gather(g.Group, g.Of, append([]api.Chunk{}, g.Got...)...)
}

func equal(a, b api.Gather) bool {
	return a.Group == b.Group && a.Of == b.Of && slices.Equal(a.Got, b.Got)
}

// outcome is what a call answers that answers a gather.
type outcome struct {
	g   api.Gather
	err api.Errno
}

func refused(err api.Errno) outcome { return outcome{err: err} }

// takeDue is what P20.2 asks of Take, worked out apart from the package.
func takeDue(g api.Gather, c api.Chunk) outcome {
	if !validGather(g) {
		return refused(api.ErrArg)
	}
	after := copied(g)
	if c.Group != g.Group || !validChunk(c) || g.Of > 0 && c.Of != g.Of {
		return refused(api.ErrChunk)
	}
	for _, there := range g.Got {
		if there.No == c.No && there.Bytes == c.Bytes {
			return outcome{g: after}
		}
		if there.No == c.No {
			return refused(api.ErrChunk)
		}
	}
	after.Of, after.Got = c.Of, append(after.Got, c)
	slices.SortFunc(after.Got, func(a, b api.Chunk) int { return a.No - b.No })
	return outcome{g: after}
}

// missingDue and bytesDue are what P20.3 asks, worked out apart from the package.
func missingDue(g api.Gather) []int {
	if !validGather(g) {
		return nil
	}
	l := row(0, g.Of)
	for _, c := range g.Got {
		l = slices.DeleteFunc(l, func(n int) bool { return n == c.No })
	}
	return l
}

func bytesDue(g api.Gather) (string, api.Errno) {
	if !validGather(g) {
		return "", api.ErrArg
	}
	if g.Of == 0 || len(missingDue(g)) > 0 {
		return "", api.ErrShort
	}
	var l []string
	for no := range g.Of {
		at := slices.IndexFunc(g.Got, func(c api.Chunk) bool { return c.No == no })
		l = append(l, g.Got[at].Bytes)
	}
	return strings.Join(l, ""), api.OK
}

func toldBytes(s string) string {
	return strconv.Itoa(len(s)) + " bytes " + strconv.Quote(s[:min(len(s), 6)])
}

func toldChunk(c api.Chunk) string {
	return "(group " + strconv.Itoa(c.Group) + ": " + strconv.Itoa(c.No) + " of " + strconv.Itoa(c.Of) + ", " + toldBytes(c.Bytes) + ")"
}

func toldChunks(l []api.Chunk) string {
	s := strconv.Itoa(len(l)) + " chunks"
	for _, c := range l[:min(len(l), 6)] {
		s += " " + toldChunk(c)
	}
	return s
}

func told(g api.Gather) string {
	return "{group " + strconv.Itoa(g.Group) + ", Of " + strconv.Itoa(g.Of) + ", " + toldChunks(g.Got) + "}"
}

func (o outcome) told() string { return told(o.g) + ", error " + strconv.Itoa(int(o.err)) }

func toldNumbers(l []int) string {
	s := strconv.Itoa(len(l)) + " numbers"
	for _, n := range l[:min(len(l), 8)] {
		s += " " + strconv.Itoa(n)
	}
	return s
}

// behind is what lies behind a list in the tests, within its capacity; no call may write there.
func behind() []api.Chunk {
	return []api.Chunk{piece(1, 2, 3, "behind"), piece(4, 5, 6, "there"), piece(7, 8, 9, "is more")}
}

// roomy shares nothing with the gather that it is a copy of, and has room behind its list.
func roomy(g api.Gather) api.Gather {
	own := append(slices.Clone(g.Got), behind()...)
	g.Got = own[:len(g.Got)]
	return g
}

// untouched tells whether a roomy copy is as it was.
func untouched(before, g api.Gather) bool {
	return equal(before, g) && slices.Equal(g.Got[len(g.Got):][:len(behind())], behind())
}

// scratch changes all that a list has, and what lies behind it.
func scratch(l []api.Chunk) {
	l = l[:cap(l)]
	for i := range l {
		l[i] = piece(99, 98, 97, "scratch")
	}
}

func checkTake(t *testing.T, g api.Gather, c api.Chunk, want outcome) {
	t.Helper()
	mine := roomy(g)
	var is outcome
	is.g, is.err = Take(mine, c)
	if !equal(is.g, want.g) || is.err != want.err || is.err == api.OK && !Right(is.g) {
		t.Errorf("%s, Take %s: %s, want %s", told(g), toldChunk(c), is.told(), want.told())
	}
	scratch(is.g.Got)
	if !untouched(g, mine) {
		t.Errorf("%s, Take %s: the argument has changed, or changes with the answer: %s", told(g), toldChunk(c), told(mine))
	}
}

func no(t *testing.T, g api.Gather, c api.Chunk, err api.Errno) {
	t.Helper()
	checkTake(t, g, c, refused(err))
}

func yes(t *testing.T, g api.Gather, c api.Chunk, after api.Gather) {
	t.Helper()
	checkTake(t, g, c, outcome{g: after})
}

// ask holds Right, Missing and Bytes of a gather against what is due.
func ask(t *testing.T, g api.Gather) {
	t.Helper()
	mine := roomy(g)
	// A call that takes a wrong gather for a right one might go through so great an Of that it would not end: the first fault ends the test.
	if right := Right(mine); right != validGather(g) {
		t.Fatalf("Right(%s): %t", told(g), right)
	}
	if l, want := Missing(mine), missingDue(g); !slices.Equal(l, want) {
		t.Fatalf("Missing(%s): %s, want %s", told(g), toldNumbers(l), toldNumbers(want))
	}
	bytes, err := Bytes(mine)
	if want, wanted := bytesDue(g); bytes != want || err != wanted {
		t.Errorf("Bytes(%s): %s, error %d, want %s, error %d", told(g), toldBytes(bytes), err, toldBytes(want), wanted)
	}
	if !untouched(g, mine) {
		t.Errorf("%s has changed", told(g))
	}
}

// right and wrong hold that the tests' own word of a gather is meant as well.
func right(t *testing.T, g api.Gather) {
	t.Helper()
	if ask(t, g); !validGather(g) {
		t.Errorf("%s is wrong to the tests", told(g))
	}
}

func wrong(t *testing.T, g api.Gather) {
	t.Helper()
	if ask(t, g); validGather(g) {
		t.Errorf("%s is right to the tests", told(g))
	}
}

func wrongGroups() []int {
	return []int{-1, -2, -31, -32, groups, groups + 1, 63, 64, 255, 256, 256 + 3, 1 << 16, 1<<31 - 1, 1 << 32, 1<<32 + 3, -1 << 32, -1<<32 + 3, math.MinInt, math.MinInt + 3, math.MaxInt}
}

func wrongCounts() []int {
	return []int{-1, -2, -3, -chunks, chunks + 1, chunks + 2, 2 * chunks, 1 << 16, 1<<16 + 3, 1<<31 - 1, 1 << 32, 1<<32 + 1, 1<<32 + 3, -1<<32 + 3, math.MinInt, math.MinInt + 3, math.MaxInt, math.MaxInt - 1}
}

// wrongChunks are none of the chapter's, whatever the gather; most of them look like chunks of group 3, of 3 or of 1.
func wrongChunks() []api.Chunk {
	full, over := text(size), text(size+1)
	l := []api.Chunk{{}, piece(3, 0, 0, ""), piece(3, 0, 0, "a"), piece(3, 0, 0, full), piece(3, -1, 0, full), piece(3, -1, 0, "")}
	for _, bytes := range []string{"", "a", text(size - 1), over, text(2 * size), text(all), text(1<<16 + size), text(size + 1<<8)} {
		l = append(l, piece(3, 0, 3, bytes), piece(3, 1, 3, bytes), piece(3, 0, 2, bytes), piece(3, 0, chunks, bytes), piece(3, chunks-2, chunks, bytes))
	}
	for _, bytes := range []string{"", over, text(2 * size), text(all), text(1<<16 + 1), text(size + 1<<8)} {
		l = append(l, piece(3, 2, 3, bytes), piece(3, 1, 2, bytes), piece(3, chunks-1, chunks, bytes))
		if bytes != "" {
			l = append(l, piece(3, 0, 1, bytes))
		}
	}
	for _, number := range []int{-1, -2, -3, 3, 4, 6, 255, 256, 257, 1 << 16, 1<<16 + 1, 1 << 32, 1<<32 + 1, -1<<32 + 1, math.MinInt, math.MinInt + 1, math.MaxInt, math.MaxInt - 1} {
		for _, bytes := range []string{"", "a", full} {
			l = append(l, piece(3, number, 3, bytes), piece(3, number, 1, bytes))
		}
	}
	for _, of := range wrongCounts() {
		for _, bytes := range []string{"", "a", full} {
			l = append(l, piece(3, 0, of, bytes), piece(3, 1, of, bytes), piece(3, 2, of, bytes), piece(3, of-1, of, bytes), piece(3, chunks-1, of, bytes), piece(3, chunks, of, bytes))
		}
	}
	for _, group := range wrongGroups() {
		l = append(l, piece(group, 0, 1, ""), piece(group, 0, 1, "a"), piece(group, 0, 3, full), piece(group, 1, 3, full), piece(group, 2, 3, "a"))
	}
	return l
}

// rightGathers are valid, at the bounds of their numbers, with all that may be there of a few chunks.
func rightGathers() []api.Gather {
	l := []api.Gather{{}, gather(3, 0), gather(31, 0), {Group: 3, Got: []api.Chunk{}}, gather(3, 1, piece(3, 0, 1, "")), gather(0, 1, piece(0, 0, 1, "")), gather(31, 1, piece(31, 0, 1, ""))}
	for of := 1; of <= 5; of++ {
		for bits := range 1 << of {
			l = append(l, some(3, of, 1+(bits*50+of)%size, subset(of, bits)...))
		}
	}
	for _, last := range []int{1, 2, size - 1, size} {
		l = append(l, some(3, 1, last, 0), some(3, 2, last, 1), some(3, 3, last, 0, 1, 2), some(0, 3, last, 2), some(31, 3, last, 1, 2))
	}
	return append(l, bigGathers()...)
}

func bigGathers() []api.Gather {
	every := row(0, chunks)
	l := []api.Gather{gather(3, chunks), gather(3, chunks-1), gather(3, 256), gather(3, 257), some(3, chunks, 1, every...), some(3, chunks, size, every...), some(3, chunks-1, 9, every[:chunks-1]...)}
	l = append(l, some(3, chunks, 1, 0), some(3, chunks, 1, chunks-1), some(3, chunks, 77, 0, chunks-1), some(3, 257, 1, every[:257]...), some(3, 256, 256, every[:256]...))
	for _, gap := range []int{0, 1, 254, 255, 256, 257, 300, chunks - 2, chunks - 1} {
		l = append(l, some(3, chunks, 44, without(every, gap)...), some(3, 300, 44, without(every[:300], gap)...), some(3, chunks, 44, gap))
	}
	return l
}

// wrongGathers have a number that may not be, or chunks that may not be together, or a wrong chunk at any place.
func wrongGathers() []api.Gather {
	var l []api.Gather
	for _, group := range wrongGroups() {
		l = append(l, gather(group, 0), gather(group, 3), gather(group, 3, piece(group, 1, 3, text(size))), gather(group, 1, piece(group, 0, 1, "")), gather(group, 3, piece(3, 1, 3, text(size))))
	}
	for _, of := range wrongCounts() {
		l = append(l, gather(3, of), gather(3, of, piece(3, 0, of, text(size))), gather(3, of, piece(3, of-1, of, "a")), gather(3, of, whole(3, 1, 3, 7)))
	}
	l = append(l, gather(3, 0, piece(3, 0, 0, "")), gather(3, 0, piece(3, 0, 1, "")), gather(3, 0, piece(3, 0, 1, "a")), gather(3, 0, whole(3, 1, 3, 7)), gather(3, 0, api.Chunk{}), gather(0, 0, api.Chunk{}))
	for _, numbers := range [][]int{{0, 0}, {1, 1}, {2, 2}, {1, 0}, {2, 0}, {2, 1}, {0, 0, 1}, {0, 1, 1}, {0, 2, 2}, {0, 2, 1}, {1, 0, 2}, {1, 2, 0}, {2, 1, 0}, {2, 0, 1}, {1, 2, 2}, {0, 1, 2, 2}, {0, 0, 1, 2}, {0, 1, 2, 0}, {0, 1, 1, 2}, {0, 1, 2, 1}} {
		l = append(l, some(3, 3, 7, numbers...))
	}
	for i, bad := range wrongChunks() {
		l = append(l, gather(3, 3, bad), gather(3, bad.Of, bad), gather(bad.Group, bad.Of, bad))
		for place := range 3 {
			instead, more := some(3, 3, 7, 0, 1, 2), some(3, 3, 7, subset(3, i%8)...)
			instead.Got[place] = bad
			more.Got = slices.Insert(more.Got, min(place, len(more.Got)), bad)
			l = append(l, instead, more)
		}
	}
	return append(l, strangers()...)
}

// strangers have chunks that are valid, but not theirs.
func strangers() []api.Gather {
	var l []api.Gather
	for place := range 3 {
		for _, other := range []int{0, 2, 4, 31} {
			g := some(3, 3, 7, 0, 1, 2)
			g.Got[place].Group = other
			l = append(l, g, gather(3, 3, whole(other, place, 3, 7)))
		}
		for _, of := range []int{1, 2, 4, 5, 256 + 3, chunks} {
			g := some(3, 3, 7, 0, 1, 2)
			g.Got[place] = whole(3, min(place, of-1), of, 7)
			l = append(l, g, gather(3, 3, g.Got[place]))
		}
	}
	return append(l, bigStrangers()...)
}

func bigStrangers() []api.Gather {
	var l []api.Gather
	every := row(0, chunks)
	for _, place := range []int{0, 1, 255, 256, 510, 511} {
		twice := some(3, chunks, 44, slices.Insert(slices.Clone(every), place, place)...)
		group, count, short, swapped := some(3, chunks, 44, every...), some(3, chunks, 44, every...), some(3, chunks, 44, every...), some(3, chunks, 44, every...)
		group.Got[place].Group, count.Got[place].Of, short.Got[place].Bytes = 4, chunks-1, ""
		other := (place + 1) % chunks
		swapped.Got[place], swapped.Got[other] = swapped.Got[other], swapped.Got[place]
		l = append(l, twice, group, count, short, swapped)
	}
	return l
}

func TestExamples(t *testing.T) {
	l, err := Split(3, "")
	if err != api.OK || !slices.Equal(l, []api.Chunk{{Group: 3, No: 0, Of: 1}}) {
		t.Errorf("%s, error %d", toldChunks(l), err)
	}
	s := text(300)
	l, err = Split(3, s)
	if err != api.OK || !slices.Equal(l, []api.Chunk{{Group: 3, No: 0, Of: 2, Bytes: s[:256]}, {Group: 3, No: 1, Of: 2, Bytes: s[256:]}}) {
		t.Fatalf("%s, error %d", toldChunks(l), err)
	}
	g, _ := New(3)
	g, err = Take(g, l[1])
	if m := Missing(g); err != api.OK || !slices.Equal(m, []int{0}) {
		t.Errorf("%s, error %d", toldNumbers(m), err)
	}
}

// splits holds Split against P20.1's own words: all numbers, valid, and the bytes one behind the other.
func splits(t *testing.T, group int, s string) {
	t.Helper()
	l, err := Split(group, s)
	var joined string
	for i, c := range l {
		if c.No != i || c.Of != len(l) || c.Group != group || !validChunk(c) {
			t.Fatalf("%d bytes: %s at %d", len(s), toldChunk(c), i)
		}
		joined += c.Bytes
	}
	if err != api.OK || len(l) == 0 || joined != s || s == "" && len(l) != 1 {
		t.Fatalf("group %d, %d bytes: %s, error %d", group, len(s), toldChunks(l), err)
	}
}

// fills tells how many chunks there are, and how many bytes the last one has.
func fills(t *testing.T, bytes, of, last int) {
	t.Helper()
	l, err := Split(3, text(bytes))
	if err != api.OK || len(l) != of || len(l[len(l)-1].Bytes) != last {
		t.Errorf("%d bytes: %s, error %d, want %d of which the last one has %d", bytes, toldChunks(l), err, of, last)
	}
}

func TestP20_1Split(t *testing.T) {
	for n := range 1100 {
		splits(t, n%groups, text(n))
	}
	for of := 1; of <= chunks; of++ {
		for _, n := range []int{of*size - 1, of * size, of*size - size + 1} {
			if of%37 < 2 || of > chunks-3 {
				splits(t, 31-of%groups, text(n))
			}
		}
		fills(t, of*size, of, size)
		fills(t, of*size-1, of, size-1)
		fills(t, of*size-size+1, of, 1)
	}
	for group := range groups {
		splits(t, group, "")
		splits(t, group, text(700))
		splits(t, group, strings.Repeat("\x00", 513))
	}
	fills(t, 0, 1, 0)
}

func TestP20_1SplitErrors(t *testing.T) {
	texts := []string{"", "a", text(256), text(300), text(all)}
	for _, n := range []int{all + 1, all + 2, all + size - 1, all + size, all + size + 1, 2*all - 1, 2 * all} {
		texts = append(texts, text(n))
	}
	texts = append(texts, strings.Repeat("a", 1<<18+5), strings.Repeat("a", 1<<24), strings.Repeat("a", 1<<24+5))
	for _, s := range texts {
		for _, group := range wrongGroups() {
			if l, err := Split(group, s); len(l) > 0 || err != api.ErrArg {
				t.Errorf("group %d, %d bytes: %s, error %d", group, len(s), toldChunks(l), err)
			}
		}
		for group := range groups {
			l, err := Split(group, s)
			if len(s) > all && (len(l) > 0 || err != api.ErrLong) || len(s) <= all && err != api.OK {
				t.Errorf("group %d, %d bytes: %s, error %d", group, len(s), toldChunks(l), err)
			}
		}
	}
}

// What one call answered is not what another one answers.
func TestP20_1SplitAlone(t *testing.T) {
	for _, n := range []int{0, 1, 256, 300, 1000, all} {
		s := text(n)
		first, _ := Split(3, s)
		kept := slices.Clone(first)
		second, _ := Split(3, s)
		scratch(second)
		if !slices.Equal(first, kept) {
			t.Errorf("%d bytes: %s", n, toldChunks(first))
		}
	}
}

func TestP20_1New(t *testing.T) {
	for group := range groups {
		g, err := New(group)
		if err != api.OK || !equal(g, api.Gather{Group: group}) || !Right(g) {
			t.Errorf("group %d: %s, error %d", group, told(g), err)
		}
	}
	for _, group := range wrongGroups() {
		if g, err := New(group); err != api.ErrArg || !equal(g, api.Gather{}) {
			t.Errorf("group %d: %s, error %d", group, told(g), err)
		}
	}
}

func TestP20_1Right(t *testing.T) {
	for _, g := range rightGathers() {
		right(t, g)
	}
	for group := range groups {
		right(t, gather(group, 0))
		right(t, gather(group, 3))
		right(t, some(group, 3, 7, 0, 2))
		right(t, gather(group, 1, piece(group, 0, 1, "")))
	}
	for of := range chunks + 1 {
		right(t, gather(3, of))
		if of > 0 {
			right(t, some(3, of, 1, of-1))
			right(t, some(3, of, size, 0))
		}
	}
}

func TestP20_1RightWrong(t *testing.T) {
	for _, g := range wrongGathers() {
		wrong(t, g)
	}
}

// Each number of bytes, in chunks that are the last one, the only one or neither.
func TestP20_1RightBytes(t *testing.T) {
	s := text(2*size + 9)
	for n := range len(s) {
		for _, of := range []int{1, 2, 3, 255, 256, 257, chunks - 1, chunks} {
			for _, number := range []int{0, 1, of / 2, of - 2, of - 1} {
				if number < 0 || number >= of {
					continue
				}
				want := n == size || number == of-1 && n > 0 && n < size || of == 1 && n < size
				g := gather(3, of, piece(3, number, of, s[:n]))
				if Right(g) != want || validGather(g) != want {
					t.Errorf("%s: %t, want %t", told(g), Right(g), want)
				}
				fresh := gather(3, 0)
				if _, err := Take(fresh, g.Got[0]); (err == api.OK) != want {
					t.Errorf("Take %s: error %d", toldChunk(g.Got[0]), err)
				}
			}
		}
	}
}

// near are chunks at both sides of the bounds of small gathers.
func near() []api.Chunk {
	var l []api.Chunk
	for _, group := range []int{3, 4} {
		for number := -1; number <= 3; number++ {
			for of := 0; of <= 3; of++ {
				for _, n := range []int{0, 1, size - 1, size, size + 1} {
					l = append(l, piece(group, number, of, text(n)))
				}
			}
		}
	}
	return l
}

// All gathers with up to two of the chunks that are near to valid ones.
func TestP20_1RightPairs(t *testing.T) {
	seen := map[bool]int{}
	try := func(g api.Gather) {
		want := validGather(g)
		seen[want]++
		if Right(g) != want {
			t.Errorf("Right(%s): want %t", told(g), want)
		}
	}
	pieces := near()
	for of := -1; of <= 4; of++ {
		try(gather(3, of))
		for _, a := range pieces {
			try(gather(3, of, a))
			for _, b := range pieces {
				try(gather(3, of, a, b))
			}
		}
	}
	if seen[true] < 20 || seen[false] < 1000 {
		t.Errorf("%v", seen)
	}
}

// All rows of up to five numbers: they must increase, and be of the gather.
func TestP20_1RightRows(t *testing.T) {
	for of := 1; of <= 4; of++ {
		var numbers func(l []int)
		numbers = func(l []int) {
			g := gather(3, of)
			for _, n := range l {
				g.Got = append(g.Got, piece(3, n, of, text(size)))
			}
			ask(t, g)
			for n := -1; n <= of && len(l) < 5; n++ {
				numbers(append(slices.Clip(l), n))
			}
		}
		numbers(nil)
	}
}

// Each chunk of a few comes to its place, whatever is there already.
func TestP20_2Take(t *testing.T) {
	for of := 1; of <= 6; of++ {
		for bits := range 1 << of {
			there := subset(of, bits)
			g := some(3, of, 44, there...)
			for number := range of {
				c := whole(3, number, of, 44)
				if slices.Contains(there, number) {
					yes(t, g, c, g)
					continue
				}
				yes(t, g, c, some(3, of, 44, subset(of, bits|1<<number)...))
			}
		}
	}
}

// The first chunk tells how many there are, whichever it is.
func TestP20_2TakeFirst(t *testing.T) {
	for of := 1; of <= chunks; of++ {
		for _, number := range []int{0, of / 2, of - 1} {
			c := whole(of%groups, number, of, 1+of%size)
			yes(t, gather(of%groups, 0), c, gather(of%groups, of, c))
			yes(t, gather(of%groups, of), c, gather(of%groups, of, c))
			no(t, gather((of+1)%groups, 0), c, api.ErrChunk)
			if of > 1 {
				no(t, gather(of%groups, of-1), c, api.ErrChunk)
			}
			if of < chunks {
				no(t, gather(of%groups, of+1), c, api.ErrChunk)
			}
		}
	}
	none := piece(3, 0, 1, "")
	yes(t, gather(3, 0), none, gather(3, 1, none))
	yes(t, gather(3, 1, none), none, gather(3, 1, none))
	no(t, gather(3, 1, none), piece(3, 0, 1, "a"), api.ErrChunk)
	no(t, gather(3, 1, piece(3, 0, 1, "a")), none, api.ErrChunk)
}

// Each of the most chunks that there may be is the last one to come.
func TestP20_2TakeMany(t *testing.T) {
	every := row(0, chunks)
	full := some(3, chunks, 44, every...)
	for number := range chunks {
		gap := some(3, chunks, 44, without(every, number)...)
		yes(t, gap, full.Got[number], full)
		yes(t, full, full.Got[number], full)
		other := full.Got[number]
		other.Bytes = strings.Repeat("o", len(other.Bytes))
		no(t, full, other, api.ErrChunk)
		other.Group = 4
		no(t, gap, other, api.ErrChunk)
	}
}

// A chunk that differs from the one of its number does not fit, wherever the difference lies.
func TestP20_2OtherBytes(t *testing.T) {
	for _, of := range []int{1, 2, 3} {
		g := some(3, of, 44, row(0, of)...)
		for _, c := range g.Got {
			for at := range len(c.Bytes) {
				for _, bit := range []byte{1, 32, 128} {
					changed := []byte(c.Bytes)
					changed[at] ^= bit
					no(t, g, piece(3, c.No, of, string(changed)), api.ErrChunk)
				}
			}
			for n := range size + 2 {
				if n != len(c.Bytes) {
					no(t, g, piece(3, c.No, of, (c.Bytes + text(size))[:n]), api.ErrChunk)
				}
			}
			yes(t, g, piece(3, c.No, of, string([]byte(c.Bytes))), g)
		}
	}
}

func TestP20_2WrongChunks(t *testing.T) {
	gathers := []api.Gather{{}, gather(3, 0), gather(3, 1), gather(3, 3), gather(31, 0), gather(3, chunks), some(3, 3, 7, 0), some(3, 3, 7, 1, 2), some(3, 3, 7, 0, 1, 2), some(3, 1, 7, 0), some(0, 3, 7, 1), gather(3, 1, piece(3, 0, 1, ""))}
	for _, c := range wrongChunks() {
		for _, g := range gathers {
			no(t, g, c, api.ErrChunk)
		}
		no(t, gather(3, min(max(c.Of, 0), chunks)), c, api.ErrChunk)
		if 0 <= c.Group && c.Group < groups {
			no(t, gather(c.Group, 0), c, api.ErrChunk)
		}
	}
	// Valid ones that belong to others.
	for group := range groups {
		for _, of := range []int{1, 2, 3, 4, 255, 256 + 3, chunks} {
			c := whole(group, min(1, of-1), of, 7)
			for _, g := range gathers {
				if g.Group != group || g.Of != 0 && g.Of != of {
					no(t, g, c, api.ErrChunk)
				}
			}
		}
	}
}

// A wrong gather is refused ahead of everything else.
func TestP20_2ErrArgFirst(t *testing.T) {
	bad := wrongChunks()
	for i, g := range wrongGathers() {
		no(t, g, whole(3, 1, 3, 7), api.ErrArg)
		no(t, g, piece(3, 0, 1, ""), api.ErrArg)
		no(t, g, bad[i%len(bad)], api.ErrArg)
		no(t, g, whole(4, 1, 3, 7), api.ErrArg)
		if len(g.Got) > 0 {
			no(t, g, g.Got[i%len(g.Got)], api.ErrArg)
			no(t, g, g.Got[len(g.Got)-1], api.ErrArg)
		}
	}
}

// All that is near to valid chunks is offered to all small gathers.
func TestP20_2All(t *testing.T) {
	seen := map[api.Errno]int{}
	offer := func(g api.Gather, c api.Chunk) {
		want := takeDue(g, c)
		checkTake(t, g, c, want)
		seen[want.err]++
	}
	for _, c := range near() {
		for of := -1; of <= 4; of++ {
			for bits := range 1 << max(0, of) {
				offer(some(3, of, 1, subset(of, bits)...), c)
			}
		}
		for _, n := range []int{0, 1, size - 1, size} {
			offer(gather(3, 1, piece(3, 0, 1, text(n))), c)
		}
	}
	for _, err := range []api.Errno{api.OK, api.ErrArg, api.ErrChunk} {
		if seen[err] < 20 {
			t.Errorf("%v", seen)
		}
	}
}

func misses(t *testing.T, g api.Gather, numbers ...int) {
	t.Helper()
	ask(t, g)
	if l := Missing(g); !slices.Equal(l, numbers) {
		t.Errorf("Missing(%s): %s, want %s", told(g), toldNumbers(l), toldNumbers(numbers))
	}
}

func TestP20_3Missing(t *testing.T) {
	misses(t, api.Gather{})
	misses(t, gather(3, 0))
	misses(t, gather(3, 1), 0)
	misses(t, gather(3, 3), 0, 1, 2)
	misses(t, some(3, 3, 7, 0), 1, 2)
	misses(t, some(3, 3, 7, 1), 0, 2)
	misses(t, some(3, 3, 7, 2), 0, 1)
	misses(t, some(3, 3, 7, 0, 2), 1)
	misses(t, some(3, 3, 7, 0, 1, 2))
	misses(t, gather(3, 1, piece(3, 0, 1, "")))
	every := row(0, chunks)
	misses(t, gather(3, chunks), every...)
	misses(t, some(3, chunks, 9, every...))
	for number := range chunks {
		misses(t, some(3, chunks, 9, without(every, number)...), number)
		misses(t, some(3, chunks, 9, number), without(every, number)...)
		misses(t, gather(3, number+1), every[:number+1]...)
	}
	for _, g := range wrongGathers() {
		misses(t, g)
	}
}

func holds(t *testing.T, g api.Gather, want string, wanted api.Errno) {
	t.Helper()
	ask(t, g)
	if s, err := Bytes(g); s != want || err != wanted {
		t.Errorf("Bytes(%s): %s, error %d, want %s, error %d", told(g), toldBytes(s), err, toldBytes(want), wanted)
	}
}

func TestP20_3Bytes(t *testing.T) {
	holds(t, gather(3, 1, piece(3, 0, 1, "")), "", api.OK)
	holds(t, gather(3, 1, piece(3, 0, 1, "a")), "a", api.OK)
	for of := 1; of <= chunks; of++ {
		every := row(0, of)
		last := 1 + of*7%size
		if of%16 < 2 || of > chunks-3 {
			holds(t, some(of%groups, of, last, every...), text((of-1)*size+last), api.OK)
		}
		holds(t, gather(3, of), "", api.ErrShort)
		holds(t, some(3, of, last, without(every, of*3%of)...), "", api.ErrShort)
		holds(t, some(3, of, last, every[:of-1]...), "", api.ErrShort)
		holds(t, some(3, of, last, every[1:]...), "", api.ErrShort)
	}
	every := row(0, chunks)
	for number := range chunks {
		holds(t, some(3, chunks, 44, without(every, number)...), "", api.ErrShort)
	}
	holds(t, some(3, chunks, size, every...), text(all), api.OK)
}

func TestP20_3BytesErrors(t *testing.T) {
	for group := range groups {
		holds(t, gather(group, 0), "", api.ErrShort)
		holds(t, api.Gather{Group: group, Got: []api.Chunk{}}, "", api.ErrShort)
	}
	// What is not valid is told ahead of what is missing.
	for _, g := range wrongGathers() {
		holds(t, g, "", api.ErrArg)
	}
	holds(t, gather(3, 2, piece(3, 0, 2, text(size)), piece(3, 1, 2, "")), "", api.ErrArg)
	holds(t, gather(3, 2, piece(3, 0, 2, text(size-1)), piece(3, 1, 2, "a")), "", api.ErrArg)
	holds(t, some(3, 2, 7, 1, 0), "", api.ErrArg)
}

// course is a gather under way: which chunks of a string it has taken.
type course struct {
	g     api.Gather
	taken map[int]bool
}

func start(t *testing.T, group int) course {
	t.Helper()
	g, err := New(group)
	if err != api.OK {
		t.Fatal(err)
	}
	return course{g: g, taken: map[int]bool{}}
}

// next takes one more of a string's chunks, and holds P20.4: the string is there as soon as none is missing, and not earlier.
func (c course) next(t *testing.T, s string, parts []api.Chunk, number int) course {
	t.Helper()
	g, err := Take(c.g, parts[number])
	if err != api.OK || c.taken[number] && !equal(g, c.g) {
		t.Fatalf("%s, Take %s: %s, error %d", told(c.g), toldChunk(parts[number]), told(g), err)
	}
	taken := map[int]bool{number: true}
	for n := range c.taken {
		taken[n] = true
	}
	want, wanted := "", api.ErrShort
	if len(taken) == len(parts) {
		want, wanted = s, api.OK
	}
	missing := slices.DeleteFunc(row(0, len(parts)), func(n int) bool { return taken[n] })
	if l := Missing(g); !slices.Equal(l, missing) {
		t.Fatalf("Missing(%s): %s, want %s", told(g), toldNumbers(l), toldNumbers(missing))
	}
	if bytes, err := Bytes(g); bytes != want || err != wanted {
		t.Fatalf("Bytes(%s): %s, error %d, want %s, error %d", told(g), toldBytes(bytes), err, toldBytes(want), wanted)
	}
	return course{g: g, taken: taken}
}

// rows takes chunks in all rows of so many steps.
func rows(t *testing.T, c course, s string, parts []api.Chunk, steps int) {
	t.Helper()
	if steps == 0 {
		return
	}
	for number := range parts {
		rows(t, c.next(t, s, parts, number), s, parts, steps-1)
	}
}

// orders takes chunks in all orders, each of them once, and those that are there again behind each step.
func orders(t *testing.T, c course, s string, parts []api.Chunk) {
	t.Helper()
	for number := range parts {
		if c.taken[number] {
			c.next(t, s, parts, number)
			continue
		}
		orders(t, c.next(t, s, parts, number), s, parts)
	}
}

func TestP20_4AllRows(t *testing.T) {
	for i, n := range []int{0, 1, 255, 256, 257, 300, 511, 512, 513, 700, 768, 769, 1024} {
		s := text(n)
		parts, _ := Split(i, s)
		rows(t, start(t, i), s, parts, 5)
	}
	// A string whose chunks are equal is no less one of several chunks.
	s := strings.Repeat("=", 3*size)
	parts, _ := Split(31, s)
	rows(t, start(t, 31), s, parts, 6)
}

func TestP20_4AllOrders(t *testing.T) {
	for _, n := range []int{0, 256, 300, 700, 1000, 1024, 1100, 1280, 1300} {
		s := text(n)
		parts, _ := Split(7, s)
		orders(t, start(t, 7), s, parts)
	}
}

// random is the same row of numbers in each run.
type random uint64

func (r *random) below(n int) int {
	*r = *r*6364136223846793005 + 1442695040888963407
	return int(uint64(*r) >> 33 % uint64(n))
}

func (r *random) shuffled(n int) []int {
	l := row(0, n)
	for i := range l {
		k := i + r.below(n-i)
		l[i], l[k] = l[k], l[i]
	}
	return l
}

// Long strings come in any order, with chunks again and with those of others among them, which change nothing.
func TestP20_4LongRuns(t *testing.T) {
	for i, n := range []int{3000, 9000, 20000, 65536, 65537, all - 1, all, 30*size + 1} {
		by, group, s := random(i), i*4, text(n)
		parts, _ := Split(group, s)
		others, _ := Split(group+1, s)
		c := start(t, group)
		for _, number := range by.shuffled(len(parts)) {
			c = c.next(t, s, parts, number)
			again := by.below(len(parts))
			if c.taken[again] {
				c = c.next(t, s, parts, again)
			}
			changed := []byte(parts[number].Bytes)
			changed[by.below(len(changed))] ^= 4
			no(t, c.g, piece(group, number, len(parts), string(changed)), api.ErrChunk)
			no(t, c.g, others[again], api.ErrChunk)
		}
		if bytes, err := Bytes(c.g); bytes != s || err != api.OK {
			t.Errorf("%d bytes: %s, error %d", n, toldBytes(bytes), err)
		}
	}
}

// Different strings of one group have other chunks, of which each is refused where it differs.
func TestP20_4TwoStrings(t *testing.T) {
	a := text(700)
	b := a[:300] + "?" + a[301:]
	first, _ := Split(3, a)
	second, _ := Split(3, b)
	longer, _ := Split(3, a+a)
	g, _ := New(3)
	for i := range first {
		g, _ = Take(g, first[i])
		no(t, g, longer[i], api.ErrChunk)
		if i == 1 {
			no(t, g, second[i], api.ErrChunk)
		} else {
			yes(t, g, second[i], g)
		}
	}
	holds(t, g, a, api.OK)
}
