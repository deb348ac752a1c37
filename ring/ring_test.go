package ring

import (
	"hash/fnv"
	"math"
	"math/big"
	"slices"
	"strconv"
	"strings"
	"testing"

	"clepsydra/api"
)

// texts have every byte, alone and among others, and the texts that points are the hashes of.
func texts() []string {
	l := []string{"", "a", "b", "ab", "ba", "foobar", "w1#0", "w99#7", "g0", "g31", "\x00", "\x00\x00", "a\x00b", "\xff\xff\xff\xff\xff", "ä€", "\xc3(", strings.Repeat("x", 16), strings.Repeat("\x80\x00", 4096)}
	for b := range 256 {
		l = append(l, string([]byte{byte(b)}), "k"+string([]byte{byte(b), byte(255 - b)}))
	}
	return l
}

// hashOf is the chapter's 'hash' in numbers without end, brought below 2^32 at each step.
func hashOf(s string) uint32 {
	h, factor, modulus := big.NewInt(2166136261), big.NewInt(16777619), new(big.Int).Lsh(big.NewInt(1), 32)
	for _, b := range []byte(s) {
		h.Xor(h, big.NewInt(int64(b)))
		h.Mod(h.Mul(h, factor), modulus)
	}
	return uint32(h.Uint64())
}

func TestP11_1Hash(t *testing.T) {
	for _, s := range texts() {
		if got, want := Hash(s), hashOf(s); got != want {
			t.Errorf("Hash(%q) = %d, want %d", s, got, want)
		}
		f := fnv.New32a()
		f.Write([]byte(s))
		if got, want := Hash(s), f.Sum32(); got != want {
			t.Errorf("Hash(%q) = %d, want %d", s, got, want)
		}
	}
}

func TestP11_1HashByHand(t *testing.T) {
	cases := []struct {
		s    string
		want uint32
	}{
		{"", 2166136261},
		{"a", 3826002220},
		{"b", 3876335077},
		{"foobar", 3214735720},
		{"g0", 253765378},
		{"w1#0", 3259251910},
		{"w99#7", 334495390},
		{"\x00", 84696351},
		{"\xff", 2047574606},
		{"a\x00b", 284404690},
		{"\x80\xff", 3510173728},
	}
	for _, c := range cases {
		if got := Hash(c.s); got != c.want {
			t.Errorf("Hash(%q) = %d, want %d", c.s, got, c.want)
		}
	}
}

func TestP11_1Group(t *testing.T) {
	// Numbers of 32 bits and more are among these: the hash is one of 32 bits without a sign.
	sizes := []int{1, 2, 3, 7, 8, 31, 32, 33, 100, 1 << 16, 1<<31 - 1, 1 << 31, 1<<32 - 1, 1 << 32, 1<<32 + 1, math.MaxInt}
	for _, s := range texts() {
		for _, n := range sizes {
			want := new(big.Int).Mod(big.NewInt(int64(hashOf(s))), big.NewInt(int64(n)))
			if got := Group(s, n); int64(got) != want.Int64() {
				t.Errorf("Group(%q, %d) = %d, want %v", s, n, got, want)
			}
		}
		for _, n := range []int{0, -1, -2, -7, -1 << 31, -1 << 32, math.MinInt} {
			if got := Group(s, n); got != 0 {
				t.Errorf("Group(%q, %d) = %d, want 0", s, n, got)
			}
		}
	}
}

func TestP11_1GroupByHand(t *testing.T) {
	cases := []struct {
		key          string
		groups, want int
	}{{"a", 7, 5}, {"a", 0, 0}, {"a", 1, 0}, {"a", 2, 0}, {"b", 2, 1}, {"", 7, 2}, {"a", 1 << 32, 3826002220}, {"a", 3826002220, 0}, {"a", 3826002221, 3826002220}}
	for _, c := range cases {
		if got := Group(c.key, c.groups); got != c.want {
			t.Errorf("Group(%q, %d) = %d, want %d", c.key, c.groups, got, c.want)
		}
	}
}

func upTo(n int) []int {
	var l []int
	for w := range n {
		l = append(l, w+1)
	}
	return l
}

// stir is a row of numbers that looks disordered and is the same each time.
type stir uint32

func (s *stir) next(n int) int {
	*s = *s*1664525 + 1013904223
	return int(uint32(*s)>>16) % n
}

// some are n valid workers.
func (s *stir) some(n int) []int {
	var l []int
	for len(l) < n {
		if w := s.next(99) + 1; !slices.Contains(l, w) {
			l = append(l, w)
		}
	}
	slices.Sort(l)
	return l
}

func rightWorkers() [][]int {
	l := [][]int{{1, 99}, {98, 99}, {1, 2}, {2, 3}, {9, 10}, {7, 10, 42}, {1, 50, 99}, upTo(8), {92, 93, 94, 95, 96, 97, 98, 99}, {1, 2, 3, 4, 96, 97, 98, 99}, {9, 10, 11, 19, 20, 90, 91, 99}}
	for w := 1; w <= 99; w++ {
		l = append(l, []int{w})
	}
	s := stir(1)
	for i := range 300 {
		l = append(l, s.some(1+i%8))
	}
	return l
}

func wrongWorkers() [][]int {
	return [][]int{
		nil, {}, upTo(9), upTo(10), upTo(16), upTo(99), upTo(256 + 2),
		{0}, {-1}, {100}, {101}, {257}, {1 << 32}, {1<<32 + 1}, {1<<8 + 1}, {math.MinInt}, {math.MaxInt}, {math.MinInt + 1},
		{0, 1}, {-1, 1}, {-3, -2, -1}, {99, 100}, {1, 100}, {1, 2, 3, 4, 5, 6, 7, 100}, {0, 1, 2, 3, 4, 5, 6, 7}, {1, math.MaxInt}, {math.MinInt, 1},
		{1, 1}, {99, 99}, {2, 1}, {99, 1}, {1, 2, 2}, {1, 1, 2}, {1, 3, 2}, {3, 1, 2}, {3, 2, 1}, {1, 5, 3, 7}, {1, 0}, {1, 0, 2}, {1, -1, 2}, {1, 100, 2},
		{1, 2, 3, 4, 5, 6, 7, 7}, {1, 2, 3, 4, 5, 6, 8, 7}, {8, 7, 6, 5, 4, 3, 2, 1}, {1, 1, 1, 1, 1, 1, 1, 1}, {1, 2, 3, 4, 5, 6, 7, 8, 8}, {1, 2, 3, 4, 5, 6, 7, 8, 1},
	}
}

func TestP11_2Right(t *testing.T) {
	for _, l := range rightWorkers() {
		if !Right(l) {
			t.Errorf("Right(%v) is false", l)
		}
	}
	for _, l := range wrongWorkers() {
		if Right(l) {
			t.Errorf("Right(%v) is true", l)
		}
	}
}

// ownerOf is the chapter's 'owner', found without an order: the point that is nearest upwards, where the numbers of 32 bits are a circle.
func ownerOf(workers []int, group int) int {
	from, nearest, found := hashOf("g"+strconv.Itoa(group)), uint32(0), 0
	for _, w := range workers {
		for _, digit := range "01234567" {
			distance := hashOf("w"+strconv.Itoa(w)+"#"+string(digit)) - from
			if found == 0 || distance < nearest || distance == nearest && w < found {
				nearest, found = distance, w
			}
		}
	}
	return found
}

func TestP11_2Assign(t *testing.T) {
	for i, l := range rightWorkers() {
		var want []int
		for g := range 32 {
			want = append(want, ownerOf(l, g))
		}
		for _, n := range []int{1, 2, 31, 32, 1 + i%32} {
			if got, e := Assign(l, n); e != api.OK || !slices.Equal(got, want[:n]) {
				t.Errorf("Assign(%v, %d) = %v, %v, want %v", l, n, got, e, want[:n])
			}
		}
	}
}

func TestP11_2AssignByHand(t *testing.T) {
	cases := []struct {
		workers []int
		want    []int
	}{
		{[]int{1}, []int{1, 1, 1}},
		{[]int{99}, []int{99}},
		{[]int{1, 2}, []int{2, 2, 2, 2, 2, 2, 2, 2, 1, 1, 2, 2, 2, 2, 2, 2, 2, 2, 2, 2, 1, 1, 1, 1, 1, 1, 1, 1, 1, 1, 1, 1}},
		{[]int{1, 2, 3}, []int{2, 2, 2, 2, 2, 2, 2, 2, 3, 3, 2, 2, 2, 2, 2, 2, 2, 2, 2, 2, 1, 1, 1, 1, 1, 1, 1, 1, 1, 1, 1, 1}},
		{upTo(8), []int{2, 2, 2, 2, 2, 2, 2, 2, 5, 5, 2, 2, 2, 2, 2, 2, 2, 2, 2, 2, 7, 7, 7, 7, 7, 7, 7, 7, 7, 7, 7, 7}},
		{[]int{1, 99}, []int{99, 99, 99, 99, 99, 99, 99, 99, 99, 99, 99, 99, 99, 99, 99, 99, 99, 99, 99, 99, 1, 1, 1, 1, 1, 1, 1, 1, 1, 1, 1, 1}},
		{[]int{7, 10, 42}, []int{10, 10, 10, 10, 10, 10, 10, 10}},
		{[]int{92, 93, 94, 95, 96, 97, 98, 99}, []int{99, 99, 99, 99, 99, 99, 99, 99, 99, 99, 99, 99, 99, 99, 99, 99, 99, 99, 99, 99, 97, 97, 97, 97, 97, 97, 97, 97, 97, 97, 94, 94}},
	}
	for _, c := range cases {
		if got, e := Assign(c.workers, len(c.want)); e != api.OK || !slices.Equal(got, c.want) {
			t.Errorf("Assign(%v, %d) = %v, %v, want %v", c.workers, len(c.want), got, e, c.want)
		}
	}
}

// TestP11_2AssignWrapsRound makes sure that the lists here have groups above all points, owned by others than the worker with the greatest point.
func TestP11_2AssignWrapsRound(t *testing.T) {
	wrapped, elsewhere := 0, 0
	for _, l := range rightWorkers() {
		least, greatest := uint32(math.MaxUint32), uint32(0)
		var leastOf, greatestOf int
		for _, w := range l {
			for i := range 8 {
				at := hashOf("w" + strconv.Itoa(w) + "#" + strconv.Itoa(i))
				if at < least {
					least, leastOf = at, w
				}
				if at > greatest {
					greatest, greatestOf = at, w
				}
			}
		}
		owners, _ := Assign(l, 32)
		for g, w := range owners {
			if hashOf("g"+strconv.Itoa(g)) <= greatest {
				continue
			}
			wrapped++
			if w != leastOf {
				t.Errorf("group %d of %v is owned by %d, want %d", g, l, w, leastOf)
			}
			if leastOf != greatestOf {
				elsewhere++
			}
		}
	}
	if wrapped < 100 || elsewhere < 10 {
		t.Error("only so many groups above all points:", wrapped, elsewhere)
	}
}

func TestP11_2AssignWrong(t *testing.T) {
	wrongGroups := []int{math.MinInt, -1 << 32, -33, -1, 0, 33, 34, 64, 1<<8 + 1, 1<<16 + 1, 1<<32 + 1, math.MaxInt}
	for _, l := range wrongWorkers() {
		// Groups that may not be are among these: ErrWorkers goes ahead of ErrArg.
		for _, n := range append(wrongGroups, 1, 3, 32) {
			if got, e := Assign(l, n); e != api.ErrWorkers || len(got) != 0 {
				t.Errorf("Assign(%v, %d) = %v, %v", l, n, got, e)
			}
		}
	}
	for _, l := range rightWorkers() {
		for _, n := range wrongGroups {
			if got, e := Assign(l, n); e != api.ErrArg || len(got) != 0 {
				t.Errorf("Assign(%v, %d) = %v, %v", l, n, got, e)
			}
		}
	}
}

// TestP11_2EqualPoints goes to the inside, since no two of the 99 workers have equal points.
func TestP11_2EqualPoints(t *testing.T) {
	for _, order := range [][]int{{3, 5, 8}, {3, 8, 5}, {5, 3, 8}, {5, 8, 3}, {8, 3, 5}, {8, 5, 3}} {
		p := points{}
		for _, w := range order {
			p.put(100, w)
			p.put(uint32(1000*w), w)
		}
		for _, from := range []uint32{0, 99, 100, 8001} {
			if got := owner(p.upwards(), from); got != 3 {
				t.Errorf("points put in the order %v: %d is owned by %d, want 3", order, from, got)
			}
		}
	}
}

// TestP11_2PointOfTheGroupItself goes to the inside too: no group has the point of a worker.
func TestP11_2PointOfTheGroupItself(t *testing.T) {
	p := points{}
	for i, at := range []uint32{0, 7, 1 << 31, math.MaxUint32} {
		p.put(at, i+1)
	}
	cases := []struct {
		from uint32
		want int
	}{{0, 1}, {1, 2}, {6, 2}, {7, 2}, {8, 3}, {1<<31 - 1, 3}, {1 << 31, 3}, {1<<31 + 1, 4}, {math.MaxUint32 - 1, 4}, {math.MaxUint32, 4}}
	for _, c := range cases {
		if got := owner(p.upwards(), c.from); got != c.want {
			t.Errorf("%d is owned by %d, want %d", c.from, got, c.want)
		}
	}
	p = points{}
	p.put(5, 9)
	p.put(7, 4)
	for _, c := range []struct {
		from uint32
		want int
	}{{4, 9}, {5, 9}, {6, 4}, {7, 4}, {8, 9}, {math.MaxUint32, 9}} {
		if got := owner(p.upwards(), c.from); got != c.want {
			t.Errorf("%d is owned by %d, want %d", c.from, got, c.want)
		}
	}
}

func TestP11_3Moves(t *testing.T) {
	cases := []struct {
		old, now []int
		want     []api.Move
	}{
		{nil, nil, nil},
		{[]int{}, []int{1}, nil},
		{[]int{1}, nil, nil},
		{[]int{1}, []int{1}, nil},
		{[]int{1}, []int{2}, []api.Move{{Group: 0, From: 1, To: 2}}},
		{[]int{1, 2, 2}, []int{1, 1, 2}, []api.Move{{Group: 1, From: 2, To: 1}}},
		{[]int{1, 2, 3}, []int{3, 2, 1}, []api.Move{{Group: 0, From: 1, To: 3}, {Group: 2, From: 3, To: 1}}},
		{[]int{2, 1}, []int{1, 2}, []api.Move{{Group: 0, From: 2, To: 1}, {Group: 1, From: 1, To: 2}}},
		{[]int{1, 2, 3, 4}, []int{1, 5}, []api.Move{{Group: 1, From: 2, To: 5}}},
		{[]int{1, 5}, []int{1, 2, 3, 4}, []api.Move{{Group: 1, From: 5, To: 2}}},
		{[]int{1, 5}, []int{1, 5, 3, 4}, nil},
		{[]int{0, -1, 100}, []int{0, 1, -100}, []api.Move{{Group: 1, From: -1, To: 1}, {Group: 2, From: 100, To: -100}}},
		{[]int{math.MinInt, 1}, []int{math.MaxInt, 1<<32 + 1}, []api.Move{{Group: 0, From: math.MinInt, To: math.MaxInt}, {Group: 1, From: 1, To: 1<<32 + 1}}},
	}
	for _, c := range cases {
		if got := Moves(c.old, c.now); !slices.Equal(got, c.want) {
			t.Errorf("Moves(%v, %v) = %v, want %v", c.old, c.now, got, c.want)
		}
	}
}

func TestP11_3MovesOfMany(t *testing.T) {
	s := stir(3)
	for i := range 200 {
		var old, now []int
		for range s.next(400) {
			old = append(old, s.next(3))
		}
		for range s.next(400) {
			now = append(now, s.next(3))
		}
		l, last := Moves(old, now), -1
		gone := slices.Clone(old[:min(len(old), len(now))])
		for _, m := range l {
			if m.Group <= last || m.Group >= len(gone) || m.From == m.To || gone[m.Group] != m.From {
				t.Fatalf("case %d: a move %v behind one of group %d", i, m, last)
			}
			gone[m.Group], last = m.To, m.Group
		}
		if !slices.Equal(gone, now[:len(gone)]) {
			t.Errorf("case %d: the moves of %v are not all: %v", i, old, l)
		}
	}
}

// with is the list with a worker put where its number has it.
func with(l []int, w int) []int {
	more := append(slices.Clone(l), w)
	slices.Sort(more)
	return more
}

func mustAssign(t *testing.T, workers []int, groups int) []int {
	t.Helper()
	owners, e := Assign(workers, groups)
	if e != api.OK || len(owners) != groups {
		t.Fatalf("Assign(%v, %d) = %v, %v", workers, groups, owners, e)
	}
	return owners
}

func TestP11_4Added(t *testing.T) {
	taken := 0
	for i, l := range rightWorkers() {
		if len(l) == 8 {
			continue
		}
		n := 32 - i%5
		old := mustAssign(t, l, n)
		for w := 1 + i%3; w <= 99; w += 3 {
			if slices.Contains(l, w) {
				continue
			}
			moves := Moves(old, mustAssign(t, with(l, w), n))
			taken += len(moves)
			for _, m := range moves {
				if m.To != w {
					t.Errorf("%d was added to %v: group %d went from %d to %d", w, l, m.Group, m.From, m.To)
				}
			}
		}
	}
	if taken < 1000 {
		t.Error("only so many groups went:", taken)
	}
}

func TestP11_4Removed(t *testing.T) {
	left := 0
	for i, l := range rightWorkers() {
		if len(l) == 1 {
			continue
		}
		n := 32 - i%5
		old := mustAssign(t, l, n)
		for at, w := range l {
			now := mustAssign(t, slices.Delete(slices.Clone(l), at, at+1), n)
			for g := range n {
				if (now[g] != old[g]) != (old[g] == w) {
					t.Errorf("%d was removed from %v: group %d went from %d to %d", w, l, g, old[g], now[g])
				}
				if old[g] == w {
					left++
				}
			}
		}
	}
	if left < 1000 {
		t.Error("only so many groups were left:", left)
	}
}

func TestP11_2OwnersAreWorkers(t *testing.T) {
	for _, l := range rightWorkers() {
		for g, w := range mustAssign(t, l, 32) {
			if !slices.Contains(l, w) {
				t.Errorf("group %d of %v is owned by %d", g, l, w)
			}
		}
	}
}

// roomy has room behind the list, which no call may write to.
func roomy(l []int) []int { return append(slices.Clone(l), -7, -8)[:len(l)] }

func TestR4ArgumentsStay(t *testing.T) {
	for _, l := range append(rightWorkers(), wrongWorkers()...) {
		a, b := roomy(l), roomy(slices.Repeat([]int{3}, len(l)))
		wantA, wantB := slices.Clone(a[:len(l)+2]), slices.Clone(b[:len(l)+2])
		Right(a)
		Assign(a, 5)
		Moves(a, b)
		Moves(b, a)
		if !slices.Equal(a[:len(l)+2], wantA) || !slices.Equal(b[:len(l)+2], wantB) {
			t.Errorf("%v became %v, %v became %v", wantA, a[:len(l)+2], wantB, b[:len(l)+2])
		}
	}
}

func TestR4AnswersStay(t *testing.T) {
	for _, l := range rightWorkers() {
		own := slices.Clone(l)
		first := mustAssign(t, own, 8)
		moves := Moves(own, []int{50, 50, 50})
		wantFirst, wantMoves := slices.Clone(first), slices.Clone(moves)
		for i := range own {
			own[i] = -9
		}
		second := mustAssign(t, l, 8)
		if !slices.Equal(first, wantFirst) || !slices.Equal(moves, wantMoves) {
			t.Errorf("%v: an answer became %v, %v", l, first, moves)
		}
		second[0] = -9
		if !slices.Equal(first, wantFirst) {
			t.Errorf("%v: two answers share their owners", l)
		}
	}
}

func TestR1SameAgain(t *testing.T) {
	for _, l := range rightWorkers() {
		first := mustAssign(t, l, 32)
		for range 5 {
			Assign(upTo(8), 7)
			Assign(upTo(9), 7)
			if again := mustAssign(t, l, 32); !slices.Equal(again, first) {
				t.Errorf("Assign(%v, 32) is %v, then %v", l, first, again)
			}
		}
	}
}
