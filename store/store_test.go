package store

import (
	"math"
	"slices"
	"strconv"
	"strings"
	"testing"

	"clepsydra/api"
)

const most = 64

// list is cells, from names and bytes in turn.
func list(texts ...string) []api.Cell {
	var l []api.Cell
	for i := 0; i < len(texts); i += 2 {
		l = append(l, api.Cell{Name: texts[i], Bytes: texts[i+1]})
	}
	return l
}

func of(cells, fresh []api.Cell) api.Store { return api.Store{Cells: cells, Fresh: fresh} }

func down(s api.Store) api.Store {
	s.Down = true
	return s
}

// numbered is n cells whose names rise; names from other letters are others.
func numbered(letter string, n int, bytes string) []api.Cell {
	var l []api.Cell
	for i := range n {
		l = append(l, api.Cell{Name: letter + strconv.Itoa(100000+i), Bytes: bytes})
	}
	return l
}

// risingNames rise byte by byte; they would not if they were compared as runes, numbers or words, or by their lengths.
func risingNames() []string {
	return []string{"\x00", "\x00\x00", "\x00a", "\x01", "\n", " ", "10", "9", "A", "Z", "a", "a\x00", "a\x00b", "aZ", "aa",
		strings.Repeat("a", 15), strings.Repeat("a", 16), "ab", "b", "b2", "\x7f", "\x80", "é", "é0", "\xef\xbf\xbd", "\xf0\x9f\x98\x80", "\xfe\xff", "\xff", "\xff\xff", strings.Repeat("\xff", 16)}
}

func wrongNames() []string {
	return []string{"", strings.Repeat("a", 17), strings.Repeat("a", 18), strings.Repeat("é", 9), strings.Repeat("\x00", 17), strings.Repeat("b", 32), strings.Repeat("a", 256), strings.Repeat("a", 256+5), strings.Repeat("a", 1<<16+1)}
}

func rightBytes() []string {
	return []string{"x", "\x00", "\xff\n ", strings.Repeat("y", 16), strings.Repeat("y", 17), strings.Repeat("é", 2048), strings.Repeat("z", 4095), strings.Repeat("\x00", 4096), strings.Repeat("z", 4096)}
}

func wrongBytes() []string {
	return []string{strings.Repeat("z", 4097), strings.Repeat("\x00", 4097), strings.Repeat("é", 2049), strings.Repeat("z", 8192), strings.Repeat("z", 1<<16), strings.Repeat("z", 1<<16+5)}
}

func wrongCells() []api.Cell {
	var l []api.Cell
	for _, name := range wrongNames() {
		l = append(l, api.Cell{Name: name, Bytes: "x"}, api.Cell{Name: name})
	}
	for _, bytes := range wrongBytes() {
		l = append(l, api.Cell{Name: "a", Bytes: bytes}, api.Cell{Name: strings.Repeat("a", 16), Bytes: bytes})
	}
	return append(l, api.Cell{Bytes: strings.Repeat("z", 4097)})
}

// named is the tricky names with the bytes in turn.
func named() []api.Cell {
	var l []api.Cell
	bytes := rightBytes()
	for i, name := range risingNames() {
		l = append(l, api.Cell{Name: name, Bytes: bytes[i%len(bytes)]})
	}
	return l
}

func rightCounting() [][]api.Cell {
	l := [][]api.Cell{nil, {}, named()}
	for _, n := range []int{1, 2, 3, 31, 63, 64} {
		l = append(l, numbered("c", n, "x"))
	}
	for _, c := range named() {
		l = append(l, []api.Cell{c})
	}
	return append(l, numbered("c", most, strings.Repeat("z", 4096)))
}

// rightFresh have names in any order, several times, and cells that remove.
func rightFresh() [][]api.Cell {
	back := named()
	slices.Reverse(back)
	l := [][]api.Cell{nil, {}, named(), back, list("a", "", "a", "x", "a", ""), list("b", "x", "a", "y")}
	for _, n := range []int{1, 2, 63, 64} {
		l = append(l, numbered("c", n, "x"), numbered("c", n, ""), numbered("f", n, "y"), slices.Repeat(list("a", "x"), n), slices.Repeat(list("a", ""), n))
	}
	return l
}

func rightStores() []api.Store {
	var l []api.Store
	freshes := rightFresh()
	for _, cells := range rightCounting() {
		for _, fresh := range freshes {
			l = append(l, of(cells, fresh))
		}
	}
	return l
}

func swapped(l []api.Cell, i, j int) []api.Cell {
	l = slices.Clone(l)
	l[i], l[j] = l[j], l[i]
	return l
}

func replaced(l []api.Cell, i int, c api.Cell) []api.Cell {
	l = slices.Clone(l)
	l[i] = c
	return l
}

func tooMany() [][]api.Cell {
	var l [][]api.Cell
	for _, n := range []int{65, 66, 128, 256, 256 + 3, 1 << 16, 1<<16 + 2} {
		l = append(l, numbered("c", n, "x"))
	}
	return l
}

// wrongPlaces have one wrong cell each.
func wrongPlaces() [][]api.Cell {
	var l [][]api.Cell
	wrongs := wrongCells()
	for _, n := range []int{1, 2, 3, 64} {
		for i := range n {
			for _, wrong := range wrongs {
				l = append(l, replaced(numbered("c", n, "x"), i, wrong))
			}
		}
	}
	return l
}

// risingAnyway have wrong cells where their names rise all the same.
func risingAnyway() [][]api.Cell {
	l := [][]api.Cell{list("", "x"), list("", "x", "a", "y"), list("a", "x", strings.Repeat("b", 17), "y"), list(strings.Repeat("a", 17), "x", "b", "y")}
	for _, bytes := range wrongBytes() {
		l = append(l, list("a", bytes, "b", "y"), list("a", "x", "b", bytes))
	}
	return l
}

// outOfOrder have right cells, but no rising names.
func outOfOrder() [][]api.Cell {
	var l [][]api.Cell
	all := named()
	for i := range all {
		for j := range i {
			l = append(l, swapped(all, i, j), replaced(all, i, all[j]), replaced(all, j, all[i]), []api.Cell{all[i], all[j]}, []api.Cell{all[i], {Name: all[i].Name, Bytes: "other"}})
		}
	}
	for i := 1; i < most; i++ {
		l = append(l, swapped(numbered("c", most, "x"), i-1, i), replaced(numbered("c", most, "x"), i, numbered("c", i, "y")[i-1]))
	}
	return l
}

// withEmpty have a cell that counts but has no bytes.
func withEmpty() [][]api.Cell {
	l := [][]api.Cell{list("a", "")}
	for i, name := range risingNames() {
		l = append(l, replaced(named(), i, api.Cell{Name: name}))
	}
	for i, c := range numbered("c", most, "") {
		l = append(l, replaced(numbered("c", most, "x"), i, c))
	}
	return l
}

func wrongCounting() [][]api.Cell {
	return slices.Concat(tooMany(), wrongPlaces(), risingAnyway(), outOfOrder(), withEmpty())
}

func wrongFresh() [][]api.Cell {
	return slices.Concat(tooMany(), wrongPlaces(), risingAnyway(), [][]api.Cell{slices.Repeat(list("a", "x"), 65), slices.Repeat(list("a", ""), 65)})
}

// wrongStores have one wrong list each, beside right ones.
func wrongStores() []api.Store {
	var l []api.Store
	counting, freshes := rightCounting(), rightFresh()
	for i, cells := range wrongCounting() {
		l = append(l, of(cells, nil), of(cells, freshes[i%len(freshes)]))
	}
	for i, fresh := range wrongFresh() {
		l = append(l, of(nil, fresh), of(counting[i%len(counting)], fresh))
	}
	return append(l, of(list("a", ""), list("", "x")))
}

// fewWrong is one wrong store of each kind.
func fewWrong() []api.Store {
	many := numbered("c", 65, "x")
	return []api.Store{of(many, nil), of(nil, many), of(list("", "x"), nil), of(nil, list("", "x")), of(list("a", ""), nil), of(list("b", "x", "a", "y"), nil), of(list("a", "x", "a", "y"), nil),
		of(nil, list("a", wrongBytes()[0])), of(list("a", wrongBytes()[0]), nil), of(many, many)}
}

func equal(a, b api.Store) bool {
	return a.Down == b.Down && slices.Equal(a.Cells, b.Cells) && slices.Equal(a.Fresh, b.Fresh)
}

func toldCells(l []api.Cell) string {
	s := strconv.Itoa(len(l)) + ":"
	for _, c := range l[:min(len(l), 6)] {
		bytes := c.Bytes[:min(len(c.Bytes), 6)]
		s += " " + strconv.Quote(c.Name[:min(len(c.Name), 20)]) + "=" + strconv.Quote(bytes) + "/" + strconv.Itoa(len(c.Bytes))
	}
	return s
}

func told(s api.Store) string {
	return "{" + toldCells(s.Cells) + "; " + toldCells(s.Fresh) + "; " + strconv.FormatBool(s.Down) + "}"
}

// spare is what lies behind a list in the tests, within its capacity; no call may write there.
func spare() api.Cell { return api.Cell{Name: "spare", Bytes: "spare"} }

func roomyList(l []api.Cell) []api.Cell {
	own := append(make([]api.Cell, 0, len(l)+5), l...)
	for i := range 5 {
		own[:cap(own)][len(l)+i] = spare()
	}
	return own
}

// roomy shares nothing with the store it is a copy of, and has room behind its lists.
func roomy(s api.Store) api.Store {
	s.Cells, s.Fresh = roomyList(s.Cells), roomyList(s.Fresh)
	return s
}

func keptList(before, l []api.Cell) bool {
	for _, c := range l[len(l):cap(l)] {
		if c != spare() {
			return false
		}
	}
	return slices.Equal(before, l)
}

func keptStore(before, s api.Store) bool {
	return before.Down == s.Down && keptList(before.Cells, s.Cells) && keptList(before.Fresh, s.Fresh)
}

// scratch changes all that a list has, and what lies behind it.
func scratch(l []api.Cell) {
	for i := range l[:cap(l)] {
		l[:cap(l)][i] = api.Cell{Name: "scratch", Bytes: "scratch"}
	}
}

// kept holds that a call left its arguments alone, and answered lists of its own.
func kept(t *testing.T, before, argument, answer api.Store) {
	t.Helper()
	if !keptStore(before, argument) {
		t.Errorf("the argument is now %s, it was %s", told(argument), told(before))
	}
	fresh := slices.Clone(answer.Fresh)
	scratch(answer.Cells)
	if !slices.Equal(fresh, answer.Fresh) {
		t.Errorf("the lists of one answer to %s share", told(before))
	}
	scratch(answer.Fresh)
	if !keptStore(before, argument) {
		t.Errorf("the answer shares a list with the argument %s", told(before))
	}
}

// answered tells whether an answer is what it must be, and may be.
func answered(got, want api.Store, e, err api.Errno) bool {
	return equal(got, want) && e == err && Right(got)
}

func checkWrite(t *testing.T, s api.Store, name, bytes string, want api.Store, err api.Errno) {
	t.Helper()
	mine := roomy(s)
	got, e := Write(mine, name, bytes)
	if !answered(got, want, e, err) {
		t.Errorf("Write(%s, %s): %s, %d, want %s, %d", told(s), toldCells(list(name, bytes)), told(got), e, told(want), err)
	}
	kept(t, s, mine, got)
}

func noWrite(t *testing.T, s api.Store, name, bytes string, err api.Errno) {
	t.Helper()
	checkWrite(t, s, name, bytes, api.Store{}, err)
}

func checkCommit(t *testing.T, s, want api.Store, err api.Errno) {
	t.Helper()
	mine := roomy(s)
	got, e := Commit(mine)
	if !answered(got, want, e, err) {
		t.Errorf("Commit(%s): %s, %d, want %s, %d", told(s), told(got), e, told(want), err)
	}
	kept(t, s, mine, got)
}

func noCommit(t *testing.T, s api.Store, err api.Errno) {
	t.Helper()
	checkCommit(t, s, api.Store{}, err)
}

func checkStart(t *testing.T, s, want api.Store, err api.Errno) {
	t.Helper()
	mine := roomy(s)
	got, e := Start(mine)
	if !answered(got, want, e, err) {
		t.Errorf("Start(%s): %s, %d, want %s, %d", told(s), told(got), e, told(want), err)
	}
	kept(t, s, mine, got)
}

func checkRead(t *testing.T, s api.Store, name, want string, err api.Errno) {
	t.Helper()
	mine := roomy(s)
	if got, e := Read(mine, name); got != want || e != err {
		t.Errorf("Read(%s, %q): %.20q, %d, want %.20q, %d", told(s), name, got, e, want, err)
	}
	kept(t, s, mine, api.Store{})
}

func checkBatch(t *testing.T, s api.Store, cells []api.Cell, left int, want api.Store, err api.Errno) {
	t.Helper()
	mine, own := roomy(s), roomyList(cells)
	got, e := Batch(mine, own, left)
	if !answered(got, want, e, err) {
		t.Errorf("Batch(%s, %s, %d): %s, %d, want %s, %d", told(s), toldCells(cells), left, told(got), e, told(want), err)
	}
	kept(t, s, mine, got)
	if !keptList(cells, own) {
		t.Errorf("Batch changed its cells %s, or shares them", toldCells(cells))
	}
}

func noBatch(t *testing.T, s api.Store, cells []api.Cell, left int, err api.Errno) {
	t.Helper()
	checkBatch(t, s, cells, left, api.Store{}, err)
}

// applying is what cells are after others have been applied, made by their names and no order.
func applying(cells, fresh []api.Cell) []api.Cell {
	counts := map[string]string{}
	for _, c := range slices.Concat(cells, fresh) {
		if delete(counts, c.Name); len(c.Bytes) > 0 {
			counts[c.Name] = c.Bytes
		}
	}
	var l []api.Cell
	for name, bytes := range counts {
		l = append(l, api.Cell{Name: name, Bytes: bytes})
	}
	slices.SortFunc(l, func(a, b api.Cell) int { return strings.Compare(a.Name, b.Name) })
	return l
}

// outcome is what Batch must answer for a valid store that is not down and valid cells: it counts the steps that there is room for.
func outcome(s api.Store, cells []api.Cell, left int) (api.Store, api.Errno) {
	room := 64 - len(s.Fresh)
	after := applying(s.Cells, slices.Concat(s.Fresh, cells))
	switch {
	case 0 <= left && left <= len(cells) && left <= room:
		return down(of(s.Cells, slices.Concat(s.Fresh, cells[:left]))), api.ErrDown
	case len(cells) > room, len(after) > 64:
		return api.Store{}, api.ErrFull
	}
	return of(after, nil), api.OK
}

// lefts is both sides of each number of steps, and numbers that would be one of them if bits were lost.
func lefts(steps int) []int {
	return []int{math.MinInt, math.MinInt + 1, -1 << 32, -256, -2, -1, 0, 1, 2, steps - 2, steps - 1, steps, steps + 1, 63, 64, 65, 66, 256, 1 << 16, 1 << 32, 1<<32 + 1, math.MaxInt}
}

// The chapter's examples.
func TestExamples(t *testing.T) {
	ab := of(list("a", "x", "b", "y"), nil)
	checkBatch(t, api.Store{}, list("a", "x", "b", "y"), -1, ab, api.OK)
	checkRead(t, ab, "a", "x", api.OK)
	checkRead(t, ab, "c", "", api.ErrName)
	failed := down(of(ab.Cells, list("a", "z", "b", "")))
	checkBatch(t, ab, list("a", "z", "b", ""), 2, failed, api.ErrDown)
	checkStart(t, failed, ab, api.OK)
	checkBatch(t, ab, list("a", "z", "b", ""), 3, of(list("a", "z"), nil), api.OK)
}

func TestP17_1Right(t *testing.T) {
	for _, s := range rightStores() {
		for _, x := range []api.Store{s, down(s)} {
			if mine := roomy(x); !Right(mine) || !keptStore(x, mine) {
				t.Errorf("Right(%s) is false, or it has changed", told(x))
			}
		}
	}
	for _, s := range wrongStores() {
		for _, x := range []api.Store{s, down(s)} {
			if mine := roomy(x); Right(mine) || !keptStore(x, mine) {
				t.Errorf("Right(%s) is true, or it has changed", told(x))
			}
		}
	}
}

// All lengths of a name and its bytes are tried, on either list.
func TestP17_1RightLengths(t *testing.T) {
	for n := range 40 {
		for _, m := range []int{0, 1, 2, 15, 16, 17, 255, 256, 257, 4095, 4096, 4097, 4098, 8192, 65536} {
			c := list(strings.Repeat("n", n), strings.Repeat("m", m))
			valid := n >= 1 && n <= 16 && m <= 4096
			if Right(of(nil, c)) != valid || Right(of(c, nil)) != (valid && m > 0) {
				t.Errorf("%d bytes of name and %d: Right is %t as fresh cell, %t as one that counts", n, m, Right(of(nil, c)), Right(of(c, nil)))
			}
		}
	}
}

// Names that rise are those that are less byte by byte, for each two of them.
func TestP17_1RightOrder(t *testing.T) {
	for i, a := range risingNames() {
		for j, b := range risingNames() {
			if Right(of(list(a, "x", b, "y"), nil)) != (i < j) || !Right(of(nil, list(a, "x", b, "y"))) {
				t.Errorf("%q and %q: Right is %t for cells that count", a, b, i >= j)
			}
		}
	}
	for n := range 70 {
		if Right(of(numbered("c", n, "x"), nil)) != (n <= most) || Right(of(nil, numbered("c", n, "x"))) != (n <= most) {
			t.Errorf("Right of %d cells", n)
		}
	}
}

func TestP17_1WriteByHand(t *testing.T) {
	s := of(list("a", "x"), nil)
	checkWrite(t, s, "b", "y", of(s.Cells, list("b", "y")), api.OK)
	checkWrite(t, api.Store{}, "b", "", of(nil, list("b", "")), api.OK)
	// What is fresh stays in the order of writing, with each name as often as it was written.
	s = of(list("a", "x"), list("b", "1", "a", ""))
	checkWrite(t, s, "a", "2", of(s.Cells, list("b", "1", "a", "", "a", "2")), api.OK)
	checkWrite(t, s, "b", "1", of(s.Cells, list("b", "1", "a", "", "b", "1")), api.OK)
	// A full store can be written to, and Commit tells.
	full := of(numbered("c", most, "x"), nil)
	checkWrite(t, full, "new", "y", of(full.Cells, list("new", "y")), api.OK)
}

func TestP17_1WriteAllStores(t *testing.T) {
	names, all := risingNames(), append(rightBytes(), "")
	for i, s := range rightStores() {
		name, bytes := names[i%len(names)], all[i%len(all)]
		if len(s.Fresh) == most {
			noWrite(t, s, name, bytes, api.ErrFull)
		} else {
			checkWrite(t, s, name, bytes, of(s.Cells, slices.Concat(s.Fresh, list(name, bytes))), api.OK)
		}
		noWrite(t, down(s), name, bytes, api.ErrDown)
	}
	for n := range most {
		fresh := numbered("f", n, "x")
		checkWrite(t, of(nil, fresh), "a", "y", of(nil, slices.Concat(fresh, list("a", "y"))), api.OK)
	}
}

func TestP17_1WriteWrong(t *testing.T) {
	full := of(nil, numbered("f", most, "x"))
	for _, c := range wrongCells() {
		for _, s := range []api.Store{{}, of(list("a", "x"), list("b", "")), full} {
			noWrite(t, s, c.Name, c.Bytes, api.ErrArg)
			noWrite(t, down(s), c.Name, c.Bytes, api.ErrArg)
		}
	}
	for _, s := range wrongStores() {
		noWrite(t, s, "a", "x", api.ErrArg)
		noWrite(t, down(s), "a", "x", api.ErrArg)
	}
	for _, s := range fewWrong() {
		noWrite(t, s, "", "x", api.ErrArg)
		noWrite(t, down(s), "", "x", api.ErrArg)
	}
	noWrite(t, down(full), "a", "x", api.ErrDown)
}

func TestP17_1Read(t *testing.T) {
	for _, s := range rightStores() {
		for _, name := range append(risingNames(), "c100000", "c100030", "c100063", "c100064", "f100000", "c") {
			at := slices.IndexFunc(s.Cells, func(c api.Cell) bool { return c.Name == name })
			if at < 0 {
				checkRead(t, s, name, "", api.ErrName)
			} else {
				checkRead(t, s, name, s.Cells[at].Bytes, api.OK)
			}
			checkRead(t, down(s), name, "", api.ErrDown)
		}
	}
	// What is fresh is not read.
	s := of(list("a", "x", "c", "z"), list("a", "1", "b", "2", "c", ""))
	checkRead(t, s, "a", "x", api.OK)
	checkRead(t, s, "b", "", api.ErrName)
	checkRead(t, s, "c", "z", api.OK)
}

func TestP17_1ReadWrong(t *testing.T) {
	// No cell has a name that no cell may have.
	for _, name := range wrongNames() {
		checkRead(t, api.Store{}, name, "", api.ErrName)
		checkRead(t, of(named(), named()), name, "", api.ErrName)
		checkRead(t, down(of(named(), nil)), name, "", api.ErrDown)
	}
	for _, s := range wrongStores() {
		checkRead(t, s, "c100000", "", api.ErrArg)
		checkRead(t, down(s), "c100000", "", api.ErrArg)
		checkRead(t, s, "none", "", api.ErrArg)
	}
}

func TestP17_2ByHand(t *testing.T) {
	old := list("b", "1", "d", "2")
	for _, c := range []struct{ fresh, want []api.Cell }{
		{nil, old},
		{list("a", "x"), list("a", "x", "b", "1", "d", "2")},
		{list("c", "x"), list("b", "1", "c", "x", "d", "2")},
		{list("e", "x"), list("b", "1", "d", "2", "e", "x")},
		{list("b", "x"), list("b", "x", "d", "2")},
		{list("d", "x"), list("b", "1", "d", "x")},
		{list("b", ""), list("d", "2")},
		{list("d", ""), list("b", "1")},
		{list("b", "", "d", ""), nil},
		{list("c", "", "a", "", "e", ""), old},
		// The last one of a name has the last word.
		{list("b", "x", "b", "y"), list("b", "y", "d", "2")},
		{list("b", "", "b", "y"), list("b", "y", "d", "2")},
		{list("b", "y", "b", ""), list("d", "2")},
		{list("a", "y", "a", ""), old},
		{list("a", "", "a", "y"), list("a", "y", "b", "1", "d", "2")},
		{list("z", "1", "y", "2", "x", "3"), list("b", "1", "d", "2", "x", "3", "y", "2", "z", "1")},
	} {
		checkCommit(t, of(old, c.fresh), of(c.want, nil), api.OK)
		checkCommit(t, of(nil, c.fresh), of(applying(nil, c.fresh), nil), api.OK)
		noCommit(t, down(of(old, c.fresh)), api.ErrDown)
	}
}

// Cells are counted when all have been applied: there may be more of them between.
func TestP17_2Full(t *testing.T) {
	full := numbered("c", most, "x")
	last := full[most-1].Name
	for _, fresh := range [][]api.Cell{
		list("new", "y", full[0].Name, ""), list(full[0].Name, "", "new", "y"), list("new", "y", last, ""),
		list("new", "y", "new", ""), list("a", "y", "a", "", "b", "z", "b", ""),
		numbered("c", most, "other"), slices.Concat(numbered("d", 32, "y"), numbered("c", 32, "")), slices.Concat(numbered("c", 32, ""), numbered("d", 32, "y")),
		slices.Concat(numbered("d", 32, "y"), numbered("d", 32, "")),
	} {
		want := applying(full, fresh)
		if len(want) != most {
			t.Fatalf("%s end with %d cells", toldCells(fresh), len(want))
		}
		checkCommit(t, of(full, fresh), of(want, nil), api.OK)
	}
	for _, fresh := range [][]api.Cell{
		list("new", "y"), list("a", "y"), list("new", "y", "other", ""), list("new", "y", full[0].Name, "", "newer", "z"), numbered("d", most, "y"),
		slices.Concat(numbered("d", 33, "y"), numbered("c", 31, "")), slices.Concat(numbered("c", 31, ""), numbered("d", 32, "y")),
		list(last, "", "new", "y", last, "z"),
	} {
		noCommit(t, of(full, fresh), api.ErrFull)
		noCommit(t, down(of(full, fresh)), api.ErrDown)
	}
	checkCommit(t, of(nil, full), of(full, nil), api.OK)
	for n := range most + 1 {
		if cells, fresh := numbered("c", n, "x"), numbered("d", most-n, "y"); n < most {
			checkCommit(t, of(cells, fresh), of(slices.Concat(cells, fresh), nil), api.OK)
			noCommit(t, of(slices.Concat(list("a", "x"), cells), fresh), api.ErrFull)
		}
	}
}

func TestP17_2AllStores(t *testing.T) {
	var fits, full int
	for _, s := range rightStores() {
		if want := applying(s.Cells, s.Fresh); len(want) > most {
			full++
			noCommit(t, s, api.ErrFull)
		} else {
			fits++
			checkCommit(t, s, of(want, nil), api.OK)
		}
		noCommit(t, down(s), api.ErrDown)
	}
	if fits < 100 || full < 10 {
		t.Errorf("%d stores fit, %d do not", fits, full)
	}
	for _, s := range wrongStores() {
		noCommit(t, s, api.ErrArg)
		noCommit(t, down(s), api.ErrArg)
	}
}

func TestP17_3ByHand(t *testing.T) {
	s := of(list("a", "x"), list("b", "1"))
	cells := list("a", "y", "c", "2")
	// What was fresh counts together with what is written.
	all := of(list("a", "y", "b", "1", "c", "2"), nil)
	for _, left := range []int{math.MinInt, -2, -1, 3, 4, math.MaxInt} {
		checkBatch(t, s, cells, left, all, api.OK)
	}
	checkBatch(t, s, cells, 0, down(s), api.ErrDown)
	checkBatch(t, s, cells, 1, down(of(s.Cells, list("b", "1", "a", "y"))), api.ErrDown)
	checkBatch(t, s, cells, 2, down(of(s.Cells, list("b", "1", "a", "y", "c", "2"))), api.ErrDown)
	// Without cells the commit is the only step.
	checkBatch(t, s, nil, 0, down(s), api.ErrDown)
	checkBatch(t, s, nil, 1, of(list("a", "x", "b", "1"), nil), api.OK)
	checkBatch(t, api.Store{}, nil, -1, api.Store{}, api.OK)
	checkBatch(t, api.Store{}, nil, 0, down(api.Store{}), api.ErrDown)
}

// An error counts if the power is still there at its step.
func TestP17_3Full(t *testing.T) {
	for _, n := range []int{0, 1, 30, 63, 64} {
		s := of(list("a", "x"), numbered("f", n, "y"))
		cells := slices.Repeat(list("g", "z"), most-n+1)
		for left := range most - n + 1 {
			checkBatch(t, s, cells, left, down(of(s.Cells, slices.Concat(s.Fresh, cells[:left]))), api.ErrDown)
		}
		for _, left := range []int{-1, most - n + 1, most - n + 2, most - n + 3, 1000} {
			noBatch(t, s, cells, left, api.ErrFull)
			noBatch(t, s, slices.Repeat(list("g", ""), 5000), left, api.ErrFull)
		}
	}
	// The commit is a step too.
	full := of(numbered("c", most, "x"), nil)
	checkBatch(t, full, list("new", "y"), 1, down(of(full.Cells, list("new", "y"))), api.ErrDown)
	for _, left := range []int{-1, 2, 3} {
		noBatch(t, full, list("new", "y"), left, api.ErrFull)
	}
}

func TestP17_3AllStores(t *testing.T) {
	seen := map[api.Errno]int{}
	freshes := rightFresh()
	for i, s := range rightStores() {
		for j := range 3 {
			cells := freshes[(i+7*j)%len(freshes)]
			for _, left := range lefts(len(cells) + 1) {
				want, err := outcome(s, cells, left)
				checkBatch(t, s, cells, left, want, err)
				seen[err]++
			}
			noBatch(t, down(s), cells, len(cells)-i%3, api.ErrDown)
		}
	}
	for _, err := range []api.Errno{api.OK, api.ErrFull, api.ErrDown} {
		if seen[err] < 500 {
			t.Errorf("only %d batches answer %d", seen[err], err)
		}
	}
}

// Wrong cells are refused ahead of everything, wherever they stand and whenever the power fails.
func TestP17_3Wrong(t *testing.T) {
	stores := []api.Store{{}, of(list("a", "x"), list("b", "")), of(numbered("c", most, "x"), numbered("f", most, "x"))}
	for _, wrong := range wrongCells() {
		for _, n := range []int{1, 2, 64, 70} {
			for _, i := range []int{0, n / 2, n - 1} {
				cells := replaced(numbered("g", n, "x"), i, wrong)
				for j, left := range []int{-1, 0, 1, n, n + 1} {
					noBatch(t, stores[j%3], cells, left, api.ErrArg)
					noBatch(t, down(stores[j%3]), cells, left, api.ErrArg)
				}
			}
		}
	}
	for _, s := range wrongStores() {
		noBatch(t, s, list("a", "x"), -1, api.ErrArg)
		noBatch(t, down(s), nil, 0, api.ErrArg)
	}
	for _, s := range fewWrong() {
		for left := -1; left < 4; left++ {
			noBatch(t, s, nil, left, api.ErrArg)
			noBatch(t, down(s), list("a", "x"), left, api.ErrArg)
			noBatch(t, down(s), list("", "x"), left, api.ErrArg)
		}
	}
}

// A batch is the same as its calls one by one.
func TestP17_3Steps(t *testing.T) {
	freshes := rightFresh()
	for i, s := range rightStores() {
		cells := freshes[i%len(freshes)]
		one, err := roomy(s), api.OK
		for _, c := range cells {
			if err == api.OK {
				one, err = Write(one, c.Name, c.Bytes)
			}
		}
		if err == api.OK {
			one, err = Commit(one)
		}
		checkBatch(t, s, cells, -1, one, err)
	}
}

func TestP17_4(t *testing.T) {
	for _, s := range rightStores() {
		checkStart(t, s, of(s.Cells, nil), api.OK)
		checkStart(t, down(s), of(s.Cells, nil), api.OK)
	}
	for _, s := range wrongStores() {
		checkStart(t, s, api.Store{}, api.ErrArg)
		checkStart(t, down(s), api.Store{}, api.ErrArg)
	}
}

// whole holds P17.5 of one batch: all or nothing, and all if it answers OK.
func whole(t *testing.T, s api.Store, cells []api.Cell, left int) (api.Store, api.Errno) {
	t.Helper()
	want := s.Cells
	after, err := Batch(s, cells, left)
	switch err {
	case api.OK:
		want = applying(s.Cells, slices.Concat(s.Fresh, cells))
	case api.ErrFull:
		// There is no new store: the caller has the old one.
		after = s
	}
	started, e := Start(after)
	if !slices.Equal(after.Cells, want) || !equal(started, of(want, nil)) || e != api.OK {
		t.Errorf("Batch(%s, %s, %d): %s, %d, and started: %s, %d", told(s), toldCells(cells), left, told(after), err, told(started), e)
	}
	return after, err
}

// lists is all lists of at most so many of these cells.
func lists(most int, cells []api.Cell) [][]api.Cell {
	all := [][]api.Cell{nil}
	for from := 0; most > 0; most-- {
		end := len(all)
		for _, l := range all[from:end] {
			for _, c := range cells {
				all = append(all, slices.Concat(l, []api.Cell{c}))
			}
		}
		from = end
	}
	return all
}

// All stores with two names and their batches, whenever the power fails.
func TestP17_5AllBatches(t *testing.T) {
	cells := list("a", "x", "a", "y", "a", "", "b", "x", "b", "y", "b", "")
	var counting [][]api.Cell
	for _, l := range lists(2, cells) {
		if Right(of(l, nil)) {
			counting = append(counting, l)
		}
	}
	if len(counting) != 9 {
		t.Fatalf("%d lists may count", len(counting))
	}
	for _, l := range counting {
		for _, fresh := range lists(1, cells) {
			for _, more := range lists(3, cells) {
				for left := -1; left < len(more)+2; left++ {
					_, err := whole(t, of(l, fresh), more, left)
					if (err == api.OK) != (left < 0 || left > len(more)) {
						t.Errorf("%d of %d writes: %d", left, len(more), err)
					}
				}
			}
		}
	}
}

// random is the same row of numbers in each run.
type random uint64

func (r *random) below(n int) int {
	*r = *r*6364136223846793005 + 1442695040888963407
	return int(uint64(*r) >> 33 % uint64(n))
}

func (r *random) cell(names int) api.Cell {
	c := api.Cell{Name: risingNames()[r.below(5)] + strconv.Itoa(r.below(names))}
	if r.below(3) > 0 {
		c.Bytes = strconv.Itoa(r.below(1000))
	}
	return c
}

func (r *random) cells(n, names int) []api.Cell {
	var l []api.Cell
	for range r.below(n) {
		l = append(l, r.cell(names))
	}
	return l
}

// Long runs: what counts is what all batches that answered OK left, whatever has failed between.
func TestP17_5LongRuns(t *testing.T) {
	for run := range 40 {
		r, names := random(run), []int{2, 8, 20, 60}[run%4]
		var s api.Store
		var counts []api.Cell
		seen := map[api.Errno]int{}
		for range 300 {
			if r.below(4) == 0 {
				c := r.cell(names)
				if after, err := Write(s, c.Name, c.Bytes); err == api.OK {
					s = after
				}
			}
			cells, left := r.cells([]int{5, 20, 70}[r.below(3)], names), r.below(30)-10
			fresh := slices.Concat(s.Fresh, cells)
			after, err := whole(t, s, cells, left)
			if seen[err]++; err == api.OK {
				counts = applying(counts, fresh)
			}
			if s = after; err != api.OK {
				s, _ = Start(s)
			}
			if !slices.Equal(s.Cells, counts) || s.Down || len(s.Fresh) > 0 {
				t.Fatalf("run %d: %s, want %s", run, told(s), toldCells(counts))
			}
		}
		if seen[api.OK] < 40 || seen[api.ErrDown] < 50 || names == 60 && seen[api.ErrFull] < 5 {
			t.Errorf("run %d: %v", run, seen)
		}
	}
}
