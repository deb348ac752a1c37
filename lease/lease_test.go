package lease

import (
	"math"
	"slices"
	"strconv"
	"testing"

	"clepsydra/api"
)

const (
	least    = math.MinInt64
	greatest = math.MaxInt64
	final    = 1 << 40
	top      = 1 << 30
)

// asTime is chapter 1's word 'clamped', and sum its Add, both written apart from the packages.
func asTime(t int64) int64 {
	switch {
	case t < 0:
		return 0
	case t > final:
		return final
	}
	return t
}

func sum(a, b int64) int64 {
	if asTime(a) > final-asTime(b) {
		return final
	}
	return asTime(a) + asTime(b)
}

// counts is the word 'in force'.
func counts(l api.Lease, now int64) bool { return l.Owner != 0 && asTime(now) < l.Until }

// times is both sides of each Until in the tests, and numbers that are times only if they are clamped or some of their bits are lost.
func times() []int64 {
	return []int64{least, -final, -1, 0, 1, 9, 10, 11, 1<<32 - 1, 1 << 32, 1<<32 + 1, final - 1, final, final + 1, 1<<62 + 5, greatest}
}

func longs() []int64 {
	return []int64{least, -5, -1, 0, 1, 4, 1 << 32, final - 10, final, final + 1, greatest}
}

func rightUntils() []int64 { return []int64{0, 1, 10, 1 << 32, final - 1, final} }

func wrongUntils() []int64 {
	return []int64{least, -final, -1 << 32, -1, final + 1, 1 << 41, 1<<62 + 5, greatest}
}

func rightWorkers() []int { return []int{1, 2, 5, 50, 98, 99} }

// wrongNumbers are below all bounds or above all of them; some would not be if bits of them were lost.
func wrongNumbers() []int {
	return []int{math.MinInt, -1 << 32, -top, -99, -1, top + 1, 1<<31 + 5, 1 << 32, 1<<32 + 1, 1<<32 + 5, math.MaxInt}
}

func wrongWorkers() []int { return append(wrongNumbers(), 0, 100, 101, 128, 256, 257, 256+5, top) }

func wrongGroups(n int) []int { return append(wrongNumbers(), -2, n, n+1, n+32, 256, 1<<16) }

func of(last int, leases ...api.Lease) api.Table { return api.Table{Leases: leases, Last: last} }

// held is a lease; back is one that was given back.
func held(owner, token int, until int64) api.Lease {
	return api.Lease{Owner: owner, Token: token, Until: until}
}

func back(token int) api.Lease { return api.Lease{Token: token} }

// mixed is a table with leases of all kinds in turn; the tokens are the last 32 ones, out of order.
func mixed(n, last, turn int) api.Table {
	t := api.Table{Last: last}
	for i := range n {
		token := last - i*7%32
		t.Leases = append(t.Leases, []api.Lease{
			{}, back(token), held(1, token, 10), held(99, token, final), held(5, token, 0), held(7, token, 1<<32),
		}[(i+turn)%6])
	}
	return t
}

func rightTables() []api.Table {
	l := []api.Table{of(1, held(1, 1, final)), of(top, held(99, top, 1)), of(top, held(1, 1, 0), back(top)), of(2, back(2), held(1, 1, 5)), of(7, held(3, 5, 9), held(3, 6, 9))}
	for _, n := range []int{1, 2, 3, 31, 32} {
		for _, last := range []int{0, 1, 5, top - 1, top} {
			l = append(l, of(last, make([]api.Lease, n)...))
		}
		for _, last := range []int{32, 40, top - 1, top} {
			for turn := range 6 {
				l = append(l, mixed(n, last, turn))
			}
		}
	}
	return l
}

// wrongLeases could be in no table whose last token is 40.
func wrongLeases() []api.Lease {
	var l []api.Lease
	for _, owner := range wrongWorkers() {
		if owner != 0 {
			l = append(l, held(owner, 40, 10), held(owner, 40, 0))
		}
	}
	for _, token := range append(wrongNumbers(), 41, 42, top, 256+40) {
		l = append(l, held(1, token, 10), back(token))
	}
	for _, until := range wrongUntils() {
		l = append(l, held(1, 40, until), api.Lease{Token: 40, Until: until}, api.Lease{Until: until})
	}
	for _, until := range rightUntils()[1:] {
		l = append(l, api.Lease{Token: 40, Until: until}, api.Lease{Until: until})
	}
	return append(l, held(1, 0, 10), held(99, 0, 0), held(1, 0, final))
}

// wrongTables have one thing each that may not be, or more.
func wrongTables() []api.Table {
	l := []api.Table{{}, {Last: 1}, {Leases: []api.Lease{}}, of(0, back(1)), of(0, held(1, 1, 10)), of(top+1, held(1, top+1, 10)), of(-1, held(100, 1, -1))}
	for _, n := range []int{33, 34, 64, 256, 256 + 2, 1 << 16, 1<<16 + 1} {
		l = append(l, of(0, make([]api.Lease, n)...), of(top, make([]api.Lease, n)...))
	}
	for _, n := range []int{1, 2, 3, 31, 32} {
		for _, last := range wrongNumbers() {
			l = append(l, of(last, make([]api.Lease, n)...), changed(mixed(n, 40, 2), 0, held(1, 1, 10)))
			l[len(l)-1].Last = last
		}
		for i := range n {
			for _, wrong := range wrongLeases() {
				t := of(40, make([]api.Lease, n)...)
				t.Leases[i] = wrong
				l = append(l, t)
			}
		}
	}
	return append(l, twins()...)
}

// twins are tables where two leases have one token.
func twins() []api.Table {
	var l []api.Table
	for _, n := range []int{2, 3, 32} {
		for i := range n {
			for j := range i {
				for _, pair := range [][2]api.Lease{{held(1, 40, 10), held(2, 40, 20)}, {back(1), back(1)}, {back(7), held(1, 7, 0)}, {held(1, 7, 9), back(7)}, {held(3, 39, 5), held(3, 39, 5)}} {
					t := of(40, make([]api.Lease, n)...)
					t.Leases[i], t.Leases[j] = pair[0], pair[1]
					l = append(l, t)
				}
			}
		}
	}
	return l
}

func equal(a, b api.Table) bool { return a.Last == b.Last && slices.Equal(a.Leases, b.Leases) }

func isZero(t api.Table) bool { return len(t.Leases) == 0 && t.Last == 0 }

// twin shares nothing with the table it is a copy of.
func twin(t api.Table) api.Table {
	t.Leases = append([]api.Lease{}, t.Leases...)
	return t
}

// changed is a table as it must be behind a call.
func changed(t api.Table, group int, l api.Lease) api.Table {
	t = twin(t)
	t.Leases[group] = l
	return t
}

func told(t api.Table) string {
	s := "last " + strconv.Itoa(t.Last) + ":"
	for _, l := range t.Leases[:min(len(t.Leases), 40)] {
		s += " " + strconv.Itoa(l.Owner) + "/" + strconv.Itoa(l.Token) + "/" + strconv.FormatInt(l.Until, 10)
	}
	return s
}

// kept holds that a call left its table alone, and answered one of its own.
func kept(t *testing.T, before, argument, answer api.Table) {
	t.Helper()
	if !equal(before, argument) {
		t.Errorf("the argument is now %s, it was %s", told(argument), told(before))
	}
	for i := range answer.Leases {
		answer.Leases[i].Owner++
	}
	if !equal(before, argument) {
		t.Errorf("the answer shares its list with the argument %s", told(before))
	}
}

func checkGrant(t *testing.T, x api.Table, group, worker int, now, long int64, want api.Table, token int, err api.Errno) {
	t.Helper()
	before := twin(x)
	got, n, e := Grant(x, group, worker, now, long)
	if !equal(got, want) || n != token || e != err || e == api.OK && !Right(got) {
		t.Errorf("Grant(%s, %d, %d, %d, %d): %s, %d, %d, want %s, %d, %d", told(x), group, worker, now, long, told(got), n, e, told(want), token, err)
	}
	kept(t, before, x, got)
}

func noGrant(t *testing.T, x api.Table, group, worker int, now, long int64, err api.Errno) {
	t.Helper()
	checkGrant(t, x, group, worker, now, long, api.Table{}, 0, err)
}

func checkRenew(t *testing.T, x api.Table, group, token int, now, long int64, want api.Table, err api.Errno) {
	t.Helper()
	before := twin(x)
	got, e := Renew(x, group, token, now, long)
	if !equal(got, want) || e != err || e == api.OK && !Right(got) {
		t.Errorf("Renew(%s, %d, %d, %d, %d): %s, %d, want %s, %d", told(x), group, token, now, long, told(got), e, told(want), err)
	}
	kept(t, before, x, got)
}

func noRenew(t *testing.T, x api.Table, group, token int, now, long int64, err api.Errno) {
	t.Helper()
	checkRenew(t, x, group, token, now, long, api.Table{}, err)
}

func checkGive(t *testing.T, x api.Table, group, token int, want api.Table, err api.Errno) {
	t.Helper()
	before := twin(x)
	got, e := Give(x, group, token)
	if !equal(got, want) || e != err || e == api.OK && !Right(got) {
		t.Errorf("Give(%s, %d, %d): %s, %d, want %s, %d", told(x), group, token, told(got), e, told(want), err)
	}
	kept(t, before, x, got)
}

func noGive(t *testing.T, x api.Table, group, token int, err api.Errno) {
	t.Helper()
	checkGive(t, x, group, token, api.Table{}, err)
}

func checkFenced(t *testing.T, x api.Table, group, token int, want bool) {
	t.Helper()
	before := twin(x)
	if got := Fenced(x, group, token); got != want {
		t.Errorf("Fenced(%s, %d, %d): %t", told(x), group, token, got)
	}
	kept(t, before, x, api.Table{})
}

func checkOwners(t *testing.T, x api.Table, now int64, want ...int) {
	t.Helper()
	before := twin(x)
	if got := Owners(x, now); !slices.Equal(got, want) {
		t.Errorf("Owners(%s, %d): %v, want %v", told(x), now, got, want)
	}
	kept(t, before, x, api.Table{})
}

// The chapter's examples.
func TestExamples(t *testing.T) {
	x, _ := New(2)
	one := of(1, held(5, 1, 14), api.Lease{})
	two := of(2, held(6, 2, 18), api.Lease{})
	checkGrant(t, x, 0, 5, 10, 4, one, 1, api.OK)
	noGrant(t, one, 0, 6, 13, 4, api.ErrFence)
	checkGrant(t, one, 0, 6, 14, 4, two, 2, api.OK)
	noRenew(t, two, 0, 1, 15, 4, api.ErrFence)
	checkFenced(t, two, 0, 1, true)
	checkFenced(t, two, 0, 2, false)
	checkOwners(t, two, 17, 6, 0)
	checkOwners(t, two, 18, 0, 0)
}

func TestP16_1Right(t *testing.T) {
	for _, x := range rightTables() {
		if before := twin(x); !Right(x) || !equal(before, x) {
			t.Errorf("Right of %s is false, or it has changed", told(x))
		}
	}
	for _, x := range wrongTables() {
		if before := twin(x); Right(x) || !equal(before, x) {
			t.Errorf("Right of %s is true, or it has changed", told(x))
		}
	}
}

// mayBe is a table of one lease, as the chapter has it.
func mayBe(l api.Lease, last int) bool {
	switch {
	case last < 0, last > 1073741824, l.Owner < 0, l.Owner > 99, l.Token < 0, l.Token > last, l.Until < 0, l.Until > 1099511627776:
		return false
	case l.Owner == 0:
		return l.Until == 0
	}
	return l.Token > 0
}

// All fields are at both sides of their bounds at once.
func TestP16_1RightFields(t *testing.T) {
	n := 0
	for _, owner := range append(wrongWorkers(), rightWorkers()...) {
		for _, token := range append(wrongNumbers(), 0, 1, 2, 40, top-1, top) {
			for _, until := range append(wrongUntils(), rightUntils()...) {
				for _, last := range append(wrongNumbers(), 0, 1, 2, 40, top-1, top) {
					l := held(owner, token, until)
					if Right(of(last, l)) != mayBe(l, last) || Right(of(last, api.Lease{}, l)) != mayBe(l, last) {
						t.Errorf("Right of %s is %t", told(of(last, l)), Right(of(last, l)))
					}
					if mayBe(l, last) {
						n++
					}
				}
			}
		}
	}
	if n < 500 {
		t.Errorf("only %d of them may be", n)
	}
}

func TestP16_1New(t *testing.T) {
	for n := 1; n <= 32; n++ {
		x, err := New(n)
		if err != api.OK || !equal(x, of(0, make([]api.Lease, n)...)) || !Right(x) {
			t.Errorf("New(%d): %s, %d", n, told(x), err)
		}
		// Each call answers a list of its own.
		x.Leases[0].Owner = 7
		if y, _ := New(n); y.Leases[0].Owner != 0 {
			t.Errorf("two answers of New(%d) share a list", n)
		}
	}
	for _, n := range append(wrongNumbers(), 0, 33, 34, 64, 256, 256+5, 1<<16, 1<<16+1) {
		if x, err := New(n); err != api.ErrArg || !isZero(x) {
			t.Errorf("New(%d): %s, %d", n, told(x), err)
		}
	}
}

func TestP16_2ByHand(t *testing.T) {
	free := of(7, api.Lease{}, back(3), held(4, 7, 10))
	checkGrant(t, free, 0, 99, 5, 6, of(8, held(99, 8, 11), back(3), held(4, 7, 10)), 8, api.OK)
	checkGrant(t, free, 1, 1, 5, 6, of(8, api.Lease{}, held(1, 8, 11), held(4, 7, 10)), 8, api.OK)
	// Until is the first time at which the lease is not in force any more.
	noGrant(t, free, 2, 1, 9, 6, api.ErrFence)
	checkGrant(t, free, 2, 1, 10, 6, of(8, api.Lease{}, back(3), held(1, 8, 16)), 8, api.OK)
	// The owner of a lease that is in force is not granted it again either.
	noGrant(t, free, 2, 4, 9, 6, api.ErrFence)
	checkGrant(t, free, 2, 4, 11, 0, of(8, api.Lease{}, back(3), held(4, 8, 11)), 8, api.OK)
	// Numbers that are not times are clamped, each of them and their sum.
	checkGrant(t, free, 0, 1, -5, 3, of(8, held(1, 8, 3), back(3), held(4, 7, 10)), 8, api.OK)
	checkGrant(t, free, 0, 1, 5, -3, of(8, held(1, 8, 5), back(3), held(4, 7, 10)), 8, api.OK)
	checkGrant(t, free, 0, 1, least, least, of(8, held(1, 8, 0), back(3), held(4, 7, 10)), 8, api.OK)
	checkGrant(t, free, 0, 1, final-2, 2, of(8, held(1, 8, final), back(3), held(4, 7, 10)), 8, api.OK)
	checkGrant(t, free, 0, 1, final-2, 3, of(8, held(1, 8, final), back(3), held(4, 7, 10)), 8, api.OK)
	checkGrant(t, free, 0, 1, greatest, greatest, of(8, held(1, 8, final), back(3), held(4, 7, 10)), 8, api.OK)
	noGrant(t, free, 2, 1, least, 6, api.ErrFence)
	// At the last time no lease is in force.
	checkGrant(t, of(1, held(2, 1, final)), 0, 1, final, 9, of(2, held(1, 2, final)), 2, api.OK)
	checkGrant(t, of(1, held(2, 1, final)), 0, 1, greatest, 9, of(2, held(1, 2, final)), 2, api.OK)
	noGrant(t, of(1, held(2, 1, final)), 0, 1, final-1, 9, api.ErrFence)
}

func TestP16_2LastTokens(t *testing.T) {
	checkGrant(t, of(top-1, api.Lease{}), 0, 1, 0, 1, of(top, held(1, top, 1)), top, api.OK)
	noGrant(t, of(top, api.Lease{}), 0, 1, 0, 1, api.ErrFull)
	noGrant(t, of(top, back(top)), 0, 1, 0, 1, api.ErrFull)
	noGrant(t, of(top, held(1, top, 9), held(2, 4, 8)), 1, 1, 8, 1, api.ErrFull)
	// What is in force counts ahead of that, and a wrong worker or group ahead of both.
	noGrant(t, of(top, held(1, top, 9)), 0, 1, 8, 1, api.ErrFence)
	noGrant(t, of(top, held(1, top, 9)), 0, 0, 8, 1, api.ErrArg)
	noGrant(t, of(top, held(1, top, 9)), 1, 1, 8, 1, api.ErrArg)
	noGrant(t, of(top, api.Lease{}), 0, 100, 8, 1, api.ErrArg)
}

func TestP16_2AllTables(t *testing.T) {
	for i, x := range rightTables() {
		for group, l := range x.Leases {
			for j, now := range times() {
				long := longs()[(i+group+j)%len(longs())]
				worker := rightWorkers()[(i+group)%len(rightWorkers())]
				switch after := changed(x, group, held(worker, x.Last+1, sum(now, long))); {
				case counts(l, now):
					noGrant(t, x, group, worker, now, long, api.ErrFence)
				case x.Last == top:
					noGrant(t, x, group, worker, now, long, api.ErrFull)
				default:
					after.Last++
					checkGrant(t, x, group, worker, now, long, after, x.Last+1, api.OK)
				}
			}
		}
	}
}

func TestP16_2WorkersAndTimes(t *testing.T) {
	x := mixed(6, 40, 0)
	for worker := 1; worker <= 99; worker++ {
		for _, now := range times() {
			for _, long := range longs() {
				after := changed(x, 1, held(worker, 41, sum(now, long)))
				after.Last = 41
				checkGrant(t, x, 1, worker, now, long, after, 41, api.OK)
			}
		}
	}
}

func TestP16_2WrongArguments(t *testing.T) {
	for _, x := range rightTables() {
		for _, now := range []int64{0, 9, final} {
			for _, group := range wrongGroups(len(x.Leases)) {
				noGrant(t, x, group, 1, now, 4, api.ErrArg)
				noGrant(t, x, group, 0, now, 4, api.ErrArg)
			}
			for _, worker := range wrongWorkers() {
				for group := range x.Leases {
					noGrant(t, x, group, worker, now, 4, api.ErrArg)
				}
			}
		}
	}
	for _, x := range wrongTables() {
		for _, group := range []int{-1, 0, len(x.Leases) - 1, len(x.Leases)} {
			noGrant(t, x, group, 1, 0, 4, api.ErrArg)
			noGrant(t, x, group, 99, final, 4, api.ErrArg)
		}
	}
}

func TestP16_3ByHand(t *testing.T) {
	x := of(7, api.Lease{}, back(3), held(4, 7, 10), held(99, 5, final))
	until := func(u int64) api.Table { return changed(x, 2, held(4, 7, u)) }
	checkRenew(t, x, 2, 7, 9, 4, until(13), api.OK)
	checkRenew(t, x, 2, 7, 9, 2, until(11), api.OK)
	// No lease becomes shorter.
	for _, long := range []int64{1, 0, -1, least} {
		checkRenew(t, x, 2, 7, 9, long, x, api.OK)
	}
	checkRenew(t, x, 2, 7, 3, 4, x, api.OK)
	checkRenew(t, x, 2, 7, least, 12, until(12), api.OK)
	checkRenew(t, x, 2, 7, 5, greatest, until(final), api.OK)
	checkRenew(t, x, 3, 5, final-1, 7, x, api.OK)
	// One that ended is not renewed, though nobody else has it yet.
	for _, now := range []int64{10, 11, final, greatest} {
		noRenew(t, x, 2, 7, now, 4, api.ErrFence)
	}
	noRenew(t, x, 3, 5, final, 7, api.ErrFence)
	// Nobody's leases are not renewed, not even with the token that they have.
	noRenew(t, x, 0, 0, 0, 4, api.ErrFence)
	noRenew(t, x, 1, 3, 0, 4, api.ErrFence)
	for _, token := range append(wrongNumbers(), 0, 1, 5, 6, 8, 256+7) {
		noRenew(t, x, 2, token, 9, 4, api.ErrFence)
	}
	noRenew(t, of(top, held(1, top, 5)), 0, top-1, 4, 4, api.ErrFence)
	checkRenew(t, of(top, held(1, top, 5)), 0, top, 4, 4, of(top, held(1, top, 8)), api.OK)
}

// tokens are those of all leases of a table, 0, and some that none has.
func tokens(x api.Table) []int {
	l := []int{math.MinInt, -1, 0, x.Last + 1, 1<<32 + x.Last, math.MaxInt}
	for _, lease := range x.Leases {
		l = append(l, lease.Token)
	}
	return l
}

func TestP16_3AllTables(t *testing.T) {
	for i, x := range rightTables() {
		for group, l := range x.Leases {
			for j, now := range times() {
				long := longs()[(i+group+j)%len(longs())]
				if !counts(l, now) {
					noRenew(t, x, group, l.Token, now, long, api.ErrFence)
					continue
				}
				checkRenew(t, x, group, l.Token, now, long, changed(x, group, held(l.Owner, l.Token, max(l.Until, sum(now, long)))), api.OK)
			}
			for _, token := range tokens(x) {
				if token != l.Token {
					noRenew(t, x, group, token, 0, 4, api.ErrFence)
				}
			}
		}
	}
}

func TestP16_3AllTimes(t *testing.T) {
	for _, until := range rightUntils() {
		x := of(2, back(1), held(9, 2, until))
		for _, now := range times() {
			for _, long := range longs() {
				if asTime(now) < until {
					checkRenew(t, x, 1, 2, now, long, of(2, back(1), held(9, 2, max(until, sum(now, long)))), api.OK)
				} else {
					noRenew(t, x, 1, 2, now, long, api.ErrFence)
				}
			}
		}
	}
}

func TestP16_3WrongArguments(t *testing.T) {
	for _, x := range rightTables() {
		for _, group := range wrongGroups(len(x.Leases)) {
			for _, token := range []int{-1, 0, x.Leases[0].Token, x.Last} {
				noRenew(t, x, group, token, 0, 4, api.ErrArg)
			}
		}
	}
	for _, x := range wrongTables() {
		for _, group := range []int{-1, 0, len(x.Leases) - 1, len(x.Leases)} {
			for _, token := range []int{0, 1, 40} {
				noRenew(t, x, group, token, 0, 4, api.ErrArg)
			}
		}
	}
}

func TestP16_4ByHand(t *testing.T) {
	x := of(7, api.Lease{}, back(3), held(4, 7, 10), held(99, 5, 0))
	given := of(7, api.Lease{}, back(3), back(7), held(99, 5, 0))
	checkGive(t, x, 2, 7, given, api.OK)
	noGive(t, given, 2, 7, api.ErrFence)
	// One that is not in force any more, or never was, can be given back too.
	checkGive(t, x, 3, 5, of(7, api.Lease{}, back(3), held(4, 7, 10), back(5)), api.OK)
	noGive(t, x, 0, 0, api.ErrFence)
	noGive(t, x, 1, 3, api.ErrFence)
	for _, token := range append(wrongNumbers(), 0, 1, 5, 6, 8, 256+7) {
		noGive(t, x, 2, token, api.ErrFence)
	}
	checkGive(t, of(top, held(1, top, final)), 0, top, of(top, back(top)), api.OK)
	// What was given back is free at once, and under a new token.
	checkGrant(t, given, 2, 8, 5, 4, of(8, api.Lease{}, back(3), held(8, 8, 9), held(99, 5, 0)), 8, api.OK)
	checkOwners(t, given, 5, 0, 0, 0, 0)
}

func TestP16_4AllTables(t *testing.T) {
	for _, x := range rightTables() {
		for group, l := range x.Leases {
			for _, token := range tokens(x) {
				if l.Owner != 0 && token == l.Token {
					checkGive(t, x, group, token, changed(x, group, back(token)), api.OK)
				} else {
					noGive(t, x, group, token, api.ErrFence)
				}
			}
		}
	}
}

func TestP16_4WrongArguments(t *testing.T) {
	for _, x := range rightTables() {
		for _, group := range wrongGroups(len(x.Leases)) {
			for _, token := range []int{-1, 0, x.Leases[0].Token, x.Last} {
				noGive(t, x, group, token, api.ErrArg)
			}
		}
	}
	for _, x := range wrongTables() {
		for _, group := range []int{-1, 0, len(x.Leases) - 1, len(x.Leases)} {
			for _, token := range []int{0, 1, 40} {
				noGive(t, x, group, token, api.ErrArg)
			}
		}
	}
}

func TestP16_5Fenced(t *testing.T) {
	for _, x := range rightTables() {
		for group, l := range x.Leases {
			for _, token := range tokens(x) {
				checkFenced(t, x, group, token, l.Owner == 0 || token != l.Token)
			}
		}
		for _, group := range wrongGroups(len(x.Leases)) {
			for _, token := range tokens(x) {
				checkFenced(t, x, group, token, true)
			}
		}
	}
}

// Fenced knows no time: a lease that ended keeps its token till somebody else has the group.
func TestP16_5FencedByHand(t *testing.T) {
	x := of(7, api.Lease{}, back(3), held(4, 7, 10), held(99, 5, 0))
	for group, tokens := range [][]int{{}, {}, {7}, {5}} {
		for token := -1; token <= 300; token++ {
			checkFenced(t, x, group, token, !slices.Contains(tokens, token))
		}
	}
}

func TestP16_5FencedWrongTables(t *testing.T) {
	for _, x := range wrongTables() {
		for group, l := range x.Leases[:min(len(x.Leases), 33)] {
			checkFenced(t, x, group, l.Token, true)
			checkFenced(t, x, group, 0, true)
		}
		checkFenced(t, x, len(x.Leases), 0, true)
		checkFenced(t, x, -1, 40, true)
	}
}

func TestP16_5Owners(t *testing.T) {
	x := of(40, held(4, 7, 10), api.Lease{}, back(3), held(99, 5, 0), held(4, 40, final), held(1, 1, 9))
	checkOwners(t, x, least, 4, 0, 0, 0, 4, 1)
	checkOwners(t, x, 0, 4, 0, 0, 0, 4, 1)
	checkOwners(t, x, 8, 4, 0, 0, 0, 4, 1)
	checkOwners(t, x, 9, 4, 0, 0, 0, 4, 0)
	checkOwners(t, x, 10, 0, 0, 0, 0, 4, 0)
	checkOwners(t, x, final-1, 0, 0, 0, 0, 4, 0)
	checkOwners(t, x, final, 0, 0, 0, 0, 0, 0)
	checkOwners(t, x, greatest, 0, 0, 0, 0, 0, 0)
	for _, x := range rightTables() {
		for _, now := range times() {
			want := make([]int, len(x.Leases))
			for i, l := range x.Leases {
				if counts(l, now) {
					want[i] = l.Owner
				}
			}
			checkOwners(t, x, now, want...)
		}
	}
	for _, x := range wrongTables() {
		for _, now := range []int64{-1, 0, 9, final} {
			checkOwners(t, x, now)
		}
	}
}

// claim is what a worker believes of a group by the answers that it got, and by nothing else.
type claim struct {
	worker, token int
	until         int64
}

// world is a table at a time, and beside it what its answers have told so far; gone has a bit for each token that was given and then was fenced.
type world struct {
	leases [2]api.Lease
	last   int
	now    int64
	claims [2]claim
	gone   [2]int
}

// start is where a row of calls begins: the first time, and the last token given ahead of it.
type start struct {
	now  int64
	last int
}

func (w world) table() api.Table { return of(w.last, w.leases[:]...) }

// behind is what becomes of a world by a call: its table must be valid, and a token that was gone must be gone still.
func (w world) behind(t *testing.T, s start, x api.Table) world {
	t.Helper()
	if !Right(x) || len(x.Leases) != 2 || x.Last < w.last {
		t.Fatalf("from %+v comes %s", w, told(x))
	}
	w.leases, w.last = [2]api.Lease(x.Leases), x.Last
	for group := range 2 {
		for token := s.last + 1; token <= w.last; token++ {
			bit := 1 << (token - s.last)
			if is := Fenced(x, group, token); is {
				w.gone[group] |= bit
			} else if w.gone[group]&bit != 0 {
				t.Fatalf("token %d of group %d was fenced, and is not in %s", token, group, told(x))
			}
			if is := Fenced(x, group, token); is == (w.claims[group].token == token) {
				t.Fatalf("by the answers it is %+v, but token %d of group %d has fenced %t in %s", w.claims[group], token, group, is, told(x))
			}
		}
	}
	return w
}

// granted tries to have a group: only if by all answers nobody has it, and then by a token greater than all others.
func (w world) granted(t *testing.T, s start, group, worker int, long int64) []world {
	t.Helper()
	x, token, err := Grant(w.table(), group, worker, w.now, long)
	if inForce := w.claims[group].until > asTime(w.now); inForce != (err == api.ErrFence) {
		t.Fatalf("Grant of group %d at %+v: %d", group, w, err)
	}
	if err != api.OK {
		if err == api.ErrFull && w.last != top {
			t.Fatalf("no token is left at %+v", w)
		}
		return nil
	}
	if token != w.last+1 {
		t.Fatalf("token %d at %+v", token, w)
	}
	w.claims[group] = claim{worker, token, sum(w.now, long)}
	return []world{w.behind(t, s, x)}
}

// renewed tries to keep a group: only who has it can.
func (w world) renewed(t *testing.T, s start, group, token int, long int64) []world {
	t.Helper()
	c := &w.claims[group]
	may := c.token == token && token != 0 && c.until > asTime(w.now)
	x, err := Renew(w.table(), group, token, w.now, long)
	if may != (err == api.OK) || !may && err != api.ErrFence {
		t.Fatalf("Renew of group %d by %d at %+v: %d", group, token, w, err)
	}
	if !may {
		return nil
	}
	c.until = max(c.until, sum(w.now, long))
	return []world{w.behind(t, s, x)}
}

func (w world) given(t *testing.T, s start, group, token int) []world {
	t.Helper()
	may := w.claims[group].token == token && token != 0
	x, err := Give(w.table(), group, token)
	if may != (err == api.OK) || !may && err != api.ErrFence {
		t.Fatalf("Give of group %d by %d at %+v: %d", group, token, w, err)
	}
	if !may {
		return nil
	}
	w.claims[group] = claim{}
	return []world{w.behind(t, s, x)}
}

// owned holds the owners against what the workers believe.
func (w world) owned(t *testing.T) {
	t.Helper()
	var want [2]int
	for group, c := range w.claims {
		if c.until > asTime(w.now) {
			want[group] = c.worker
		}
	}
	checkOwners(t, w.table(), w.now, want[:]...)
}

// steps are all calls that can come next, with every token so far and the next one, and that time goes on.
func (w world) steps(t *testing.T, s start) []world {
	t.Helper()
	w.owned(t)
	var l []world
	for group := range 2 {
		for worker := 1; worker <= 2; worker++ {
			for long := int64(0); long <= 2; long++ {
				l = append(l, w.granted(t, s, group, worker, long)...)
			}
		}
		for token := s.last; token <= w.last+1; token++ {
			l = append(l, w.given(t, s, group, token)...)
			for long := int64(1); long <= 3; long++ {
				l = append(l, w.renewed(t, s, group, token, long)...)
			}
		}
	}
	w.now++
	return append(l, w)
}

// reached counts the worlds that can come about from a start on, within some times and tokens.
func reached(t *testing.T, s start, until int64, last int) int {
	t.Helper()
	l := []world{{now: s.now, last: s.last}}
	seen := map[world]bool{l[0]: true}
	for i := 0; i < len(l); i++ {
		for _, next := range l[i].steps(t, s) {
			if !seen[next] && next.now <= until && next.last <= last {
				seen[next] = true
				l = append(l, next)
			}
		}
	}
	return len(l)
}

// Each step is held against P16.6 as it is taken.
func TestP16_6AllThatCanHappen(t *testing.T) {
	for _, s := range []start{{0, 0}, {-2, 0}, {100, 7}, {final - 2, top - 3}} {
		if n := reached(t, s, s.now+3, s.last+3); n < 1000 {
			t.Errorf("only %d come about from %+v", n, s)
		}
	}
}

// random is a fixed rule by which numbers jump about.
type random uint64

func (r *random) below(n int) int {
	*r = *r*6364136223846793005 + 1442695040888963407
	return int(uint64(*r)>>33) % n
}

// run is a long row of calls at times that do not decrease, of many workers who never forget a token.
type run struct {
	random
	x      api.Table
	now    int64
	claims []claim
	old    [][]int // tokens of each group that are fenced
}

func opened(t *testing.T, groups int, seed uint64, now int64, last int) *run {
	t.Helper()
	x, err := New(groups)
	if err != api.OK {
		t.Fatal(err)
	}
	x.Last = last
	return &run{random: random(seed), x: x, now: now, claims: make([]claim, groups), old: make([][]int, groups)}
}

func (r *run) inForce(group int) bool { return r.claims[group].until > asTime(r.now) }

// lost has a group's token be fenced from now on.
func (r *run) lost(group int) {
	if token := r.claims[group].token; token != 0 {
		r.old[group] = append(r.old[group], token)
	}
	r.claims[group] = claim{}
}

func (r *run) grant(t *testing.T, group int) {
	worker, long, last := 1+r.below(99), int64(r.below(20)), r.x.Last
	x, token, err := Grant(r.x, group, worker, r.now, long)
	switch {
	case r.inForce(group) && err == api.ErrFence:
	case !r.inForce(group) && last == top && err == api.ErrFull:
	case !r.inForce(group) && err == api.OK && token == last+1:
		r.x = x
		r.lost(group)
		r.claims[group] = claim{worker, token, sum(r.now, long)}
	default:
		t.Fatalf("Grant of group %d at %d: %d, %d; it was %+v", group, r.now, token, err, r.claims[group])
	}
}

func (r *run) renew(t *testing.T, group int) {
	long := int64(r.below(30))
	x, err := Renew(r.x, group, r.claims[group].token, r.now, long)
	switch {
	case !r.inForce(group) && err == api.ErrFence:
	case r.inForce(group) && err == api.OK:
		r.x = x
		r.claims[group].until = max(r.claims[group].until, sum(r.now, long))
	default:
		t.Fatalf("Renew of group %d at %d: %d; it was %+v", group, r.now, err, r.claims[group])
	}
}

func (r *run) give(t *testing.T, group int) {
	had := r.claims[group].token != 0
	x, err := Give(r.x, group, r.claims[group].token)
	switch {
	case !had && err == api.ErrFence:
	case had && err == api.OK:
		r.x = x
		r.lost(group)
	default:
		t.Fatalf("Give of group %d at %d: %d; it was %+v", group, r.now, err, r.claims[group])
	}
}

// late has workers come with tokens that they lost: nothing of what they do has an effect.
func (r *run) late(t *testing.T, group int) {
	for range min(3, len(r.old[group])) {
		token := r.old[group][r.below(len(r.old[group]))]
		checkFenced(t, r.x, group, token, true)
		noRenew(t, r.x, group, token, r.now, 9, api.ErrFence)
		noGive(t, r.x, group, token, api.ErrFence)
	}
}

func (r *run) owned(t *testing.T) {
	t.Helper()
	want := make([]int, len(r.claims))
	for group, c := range r.claims {
		if r.inForce(group) {
			want[group] = c.worker
		}
		if c.token != 0 {
			checkFenced(t, r.x, group, c.token, false)
		}
	}
	checkOwners(t, r.x, r.now, want...)
}

func (r *run) step(t *testing.T) {
	group := r.below(len(r.claims))
	switch r.below(8) {
	case 0, 1:
		r.grant(t, group)
	case 2, 3, 4:
		r.renew(t, group)
	case 5:
		r.give(t, group)
	default:
		r.now += int64(r.below(6))
	}
	r.late(t, group)
	r.owned(t)
}

func TestP16_6LongRuns(t *testing.T) {
	for i, s := range []start{{0, 0}, {-200, 0}, {1 << 32, 5}, {final - 3000, top - 100}, {final - 100, 9}} {
		for _, groups := range []int{1, 2, 7, 32} {
			r := opened(t, groups, uint64(100*i+groups), s.now, s.last)
			for range 3000 {
				r.step(t)
			}
			for group := range groups {
				for _, token := range r.old[group] {
					checkFenced(t, r.x, group, token, true)
				}
			}
			if r.x.Last-s.last < 20 {
				t.Errorf("only %d tokens were given from %+v on", r.x.Last-s.last, s)
			}
		}
	}
}
