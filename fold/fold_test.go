package fold

import (
	"math"
	"math/big"
	"slices"
	"testing"

	"clepsydra/api"
)

const (
	least    = math.MinInt64
	greatest = math.MaxInt64
)

// kinds are the folds by the chapter's numbers.
func kinds() []int { return []int{1, 2, 3, 4, 5} }

// wrongKinds are no folds; cut off to fewer bits, some of them would be.
func wrongKinds() []int {
	return []int{math.MinInt, -1 << 32, -257, -5, -2, -1, 0, 6, 7, 8, 1<<8 + 2, 1<<16 + 3, 1<<32 + 1, 1<<32 + 5, 1 << 40, math.MaxInt}
}

// values has the ends of the numbers, both signs, and some that are near each other.
func values() []int64 {
	return []int64{least, least + 1, -1 << 32, -7, -2, -1, 0, 1, 2, 5, 9, 1<<32 + 1, greatest - 1, greatest}
}

// lists has empty ones, short ones, all pairs of values, equal values, and values in several orders.
func lists() [][]int64 {
	up, down := values(), values()
	slices.Reverse(down)
	l := [][]int64{nil, {}, {0, 0, 0}, {5, -2, 9}, {-2, 9, 5}, {9, 5, -2}, {-3, -8, -5}, {3, 8, 5}, {greatest, greatest, greatest}, {least, least, 7}, up, down}
	for _, v := range values() {
		l = append(l, []int64{v})
		for _, w := range values() {
			l = append(l, []int64{v, w})
		}
	}
	return l
}

// some are lists few enough to take all pairs and all triples of.
func some() [][]int64 {
	return [][]int64{nil, {0}, {5}, {-5}, {5, -2, 9}, {-3, -8, -5}, {greatest}, {least}, {greatest, 1}, {least, -1, 4}, {greatest, least}, values()}
}

// wrapped is the number within 64 bits that differs from n by a multiple of 2^64.
func wrapped(n *big.Int) int64 {
	low := new(big.Int).And(n, new(big.Int).SetUint64(math.MaxUint64))
	return int64(low.Uint64())
}

func sum(l []int64) int64 {
	total := new(big.Int)
	for _, v := range l {
		total.Add(total, big.NewInt(v))
	}
	return wrapped(total)
}

func difference(a, b int64) int64 { return wrapped(new(big.Int).Sub(big.NewInt(a), big.NewInt(b))) }

func ends(l []int64) (first, last int64) {
	sorted := slices.Sorted(slices.Values(l))
	return sorted[0], sorted[len(sorted)-1]
}

// defined is the chapter's word 'accumulator', written apart from the package.
func defined(kind int, l []int64) api.Acc {
	if len(l) == 0 {
		return api.Acc{}
	}
	n := int64(len(l))
	first, last := ends(l)
	switch kind {
	case 1:
		return api.Acc{N: n}
	case 2:
		return api.Acc{N: n, A: sum(l)}
	case 3:
		return api.Acc{N: n, A: first}
	case 4:
		return api.Acc{N: n, A: last}
	case 5:
		return api.Acc{N: n, A: first, B: last}
	}
	return api.Acc{}
}

// joined is what P6.2 says of accumulators that may be any.
func joined(kind int, a, b api.Acc) api.Acc {
	if kind < 1 || kind > 5 {
		return api.Acc{}
	}
	if a.N == 0 {
		return b
	}
	if b.N == 0 {
		return a
	}
	both := api.Acc{N: sum([]int64{a.N, b.N})}
	first, last := ends([]int64{a.A, b.A})
	_, lastB := ends([]int64{a.B, b.B})
	switch kind {
	case 2:
		both.A = sum([]int64{a.A, b.A})
	case 3:
		both.A = first
	case 4:
		both.A = last
	case 5:
		both.A, both.B = first, lastB
	}
	return both
}

// accs are accumulators of any fields, those that no list has among them.
func accs() []api.Acc {
	var l []api.Acc
	for _, n := range []int64{least, -1, 0, 1, 2, greatest} {
		for _, a := range []int64{least, -7, 0, 3, greatest} {
			for _, b := range []int64{least, -2, 0, 9, greatest} {
				l = append(l, api.Acc{N: n, A: a, B: b})
			}
		}
	}
	return l
}

func TestP6_1Right(t *testing.T) {
	for _, kind := range []int{api.Count, api.Sum, api.Least, api.Greatest, api.Spread} {
		if !Right(kind) {
			t.Errorf("Right(%d) is false", kind)
		}
	}
	for _, kind := range kinds() {
		if !Right(kind) {
			t.Errorf("Right(%d) is false", kind)
		}
	}
	for _, kind := range wrongKinds() {
		if Right(kind) {
			t.Errorf("Right(%d) is true", kind)
		}
	}
}

func TestP6_1One(t *testing.T) {
	cases := []struct {
		kind int
		v    int64
		want api.Acc
	}{
		{api.Count, 5, api.Acc{N: 1}}, {api.Count, -5, api.Acc{N: 1}}, {api.Count, 0, api.Acc{N: 1}},
		{api.Sum, 5, api.Acc{N: 1, A: 5}}, {api.Sum, 0, api.Acc{N: 1}}, {api.Sum, least, api.Acc{N: 1, A: least}},
		{api.Least, 5, api.Acc{N: 1, A: 5}}, {api.Least, -5, api.Acc{N: 1, A: -5}}, {api.Least, greatest, api.Acc{N: 1, A: greatest}},
		{api.Greatest, 5, api.Acc{N: 1, A: 5}}, {api.Greatest, -5, api.Acc{N: 1, A: -5}}, {api.Greatest, least, api.Acc{N: 1, A: least}},
		{api.Spread, 5, api.Acc{N: 1, A: 5, B: 5}}, {api.Spread, -5, api.Acc{N: 1, A: -5, B: -5}}, {api.Spread, 0, api.Acc{N: 1}},
	}
	for _, c := range cases {
		if got := One(c.kind, c.v); got != c.want {
			t.Errorf("One(%d, %d) = %v, want %v", c.kind, c.v, got, c.want)
		}
	}
	for _, kind := range kinds() {
		for _, v := range values() {
			if got, want := One(kind, v), defined(kind, []int64{v}); got != want {
				t.Errorf("One(%d, %d) = %v, want %v", kind, v, got, want)
			}
		}
	}
}

func TestP6_1All(t *testing.T) {
	cases := []struct {
		kind int
		l    []int64
		want api.Acc
	}{
		{api.Count, []int64{5, 5}, api.Acc{N: 2}}, {api.Count, nil, api.Acc{}}, {api.Count, []int64{0}, api.Acc{N: 1}},
		{api.Sum, []int64{5, -2, 9}, api.Acc{N: 3, A: 12}}, {api.Sum, []int64{}, api.Acc{}}, {api.Sum, []int64{4, -4}, api.Acc{N: 2}},
		{api.Sum, []int64{greatest, 1}, api.Acc{N: 2, A: least}}, {api.Sum, []int64{least, -1}, api.Acc{N: 2, A: greatest}},
		{api.Sum, []int64{greatest, greatest, 2}, api.Acc{N: 3}},
		{api.Least, []int64{5, -2, 9}, api.Acc{N: 3, A: -2}}, {api.Least, []int64{5, 9}, api.Acc{N: 2, A: 5}}, {api.Least, nil, api.Acc{}},
		{api.Least, []int64{greatest, least}, api.Acc{N: 2, A: least}},
		{api.Greatest, []int64{5, -2, 9}, api.Acc{N: 3, A: 9}}, {api.Greatest, []int64{-5, -2}, api.Acc{N: 2, A: -2}}, {api.Greatest, nil, api.Acc{}},
		{api.Greatest, []int64{least, least}, api.Acc{N: 2, A: least}},
		{api.Spread, []int64{5, -2, 9}, api.Acc{N: 3, A: -2, B: 9}}, {api.Spread, []int64{5, 7}, api.Acc{N: 2, A: 5, B: 7}},
		{api.Spread, []int64{-5, -7}, api.Acc{N: 2, A: -7, B: -5}}, {api.Spread, nil, api.Acc{}},
	}
	for _, c := range cases {
		if got := All(c.kind, c.l); got != c.want {
			t.Errorf("All(%d, %v) = %v, want %v", c.kind, c.l, got, c.want)
		}
	}
	for _, kind := range kinds() {
		for _, l := range lists() {
			if got, want := All(kind, l), defined(kind, l); got != want {
				t.Errorf("All(%d, %v) = %v, want %v", kind, l, got, want)
			}
		}
	}
}

func TestP6_1AllOfMany(t *testing.T) {
	l := make([]int64, 100000)
	for i := range l {
		l[i] = int64(i)*2654435761%1000003 - 400000
	}
	for _, kind := range kinds() {
		if got, want := All(kind, l), defined(kind, l); got != want {
			t.Errorf("All(%d, %d values) = %v, want %v", kind, len(l), got, want)
		}
	}
}

func TestP6_1WrongKinds(t *testing.T) {
	for _, kind := range wrongKinds() {
		for _, v := range values() {
			if got := One(kind, v); got != (api.Acc{}) {
				t.Errorf("One(%d, %d) = %v", kind, v, got)
			}
		}
		for _, l := range lists() {
			if got := All(kind, l); got != (api.Acc{}) {
				t.Errorf("All(%d, %v) = %v", kind, l, got)
			}
		}
	}
}

// Rule R4: a list that is passed stays as it was.
func TestP6_1ListsStay(t *testing.T) {
	l := []int64{5, -2, 9, greatest, least, 5}
	was := slices.Clone(l)
	for _, kind := range append(kinds(), wrongKinds()...) {
		All(kind, l)
	}
	if !slices.Equal(l, was) {
		t.Errorf("the list became %v", l)
	}
}

func TestP6_2Join(t *testing.T) {
	cases := []struct {
		kind       int
		a, b, want api.Acc
	}{
		{api.Count, api.Acc{N: 2}, api.Acc{N: 3}, api.Acc{N: 5}},
		{api.Count, api.Acc{N: 2, A: 4, B: 6}, api.Acc{N: 3, A: 5, B: 7}, api.Acc{N: 5}},
		{api.Sum, api.Acc{N: 2, A: 4}, api.Acc{N: 3, A: 5}, api.Acc{N: 5, A: 9}},
		{api.Sum, api.Acc{N: 2, A: 4, B: 6}, api.Acc{N: 3, A: 5, B: 7}, api.Acc{N: 5, A: 9}},
		{api.Sum, api.Acc{N: 1, A: greatest}, api.Acc{N: 1, A: 1}, api.Acc{N: 2, A: least}},
		{api.Least, api.Acc{N: 2, A: 4, B: 6}, api.Acc{N: 3, A: 5, B: 7}, api.Acc{N: 5, A: 4}},
		{api.Least, api.Acc{N: 2, A: 4}, api.Acc{N: 3, A: -5}, api.Acc{N: 5, A: -5}},
		{api.Greatest, api.Acc{N: 2, A: 4, B: 6}, api.Acc{N: 3, A: 5, B: 7}, api.Acc{N: 5, A: 5}},
		{api.Greatest, api.Acc{N: 2, A: -4}, api.Acc{N: 3, A: -5}, api.Acc{N: 5, A: -4}},
		{api.Spread, api.Acc{N: 2, A: 4, B: 6}, api.Acc{N: 3, A: 5, B: 7}, api.Acc{N: 5, A: 4, B: 7}},
		{api.Spread, api.Acc{N: 2, A: 4, B: 9}, api.Acc{N: 3, A: -5, B: 7}, api.Acc{N: 5, A: -5, B: 9}},
		// A side without values: the other one comes back as it is, whatever its fields are.
		{api.Count, api.Acc{A: 8, B: 8}, api.Acc{N: 3, A: 5, B: 7}, api.Acc{N: 3, A: 5, B: 7}},
		{api.Count, api.Acc{N: 3, A: 5, B: 7}, api.Acc{A: 8, B: 8}, api.Acc{N: 3, A: 5, B: 7}},
		{api.Least, api.Acc{}, api.Acc{N: 1, A: 5}, api.Acc{N: 1, A: 5}},
		{api.Least, api.Acc{N: 1, A: 5}, api.Acc{}, api.Acc{N: 1, A: 5}},
		{api.Spread, api.Acc{A: 1, B: 2}, api.Acc{A: 3, B: 4}, api.Acc{A: 3, B: 4}},
		{api.Sum, api.Acc{}, api.Acc{}, api.Acc{}},
		// An N that wraps around, even to 0, and one below 0, are joined like others.
		{api.Count, api.Acc{N: greatest}, api.Acc{N: 1}, api.Acc{N: least}},
		{api.Spread, api.Acc{N: 1, A: 4, B: 6}, api.Acc{N: -1, A: 5, B: 7}, api.Acc{A: 4, B: 7}},
		{api.Sum, api.Acc{N: least, A: 4}, api.Acc{N: least, A: 5}, api.Acc{A: 9}},
		{api.Least, api.Acc{N: -2, A: 4}, api.Acc{N: -3, A: 5}, api.Acc{N: -5, A: 4}},
	}
	for _, c := range cases {
		if got := Join(c.kind, c.a, c.b); got != c.want {
			t.Errorf("Join(%d, %v, %v) = %v, want %v", c.kind, c.a, c.b, got, c.want)
		}
	}
}

func TestP6_2JoinAsDefined(t *testing.T) {
	for _, kind := range append(kinds(), 0, 6, -1, 1<<32+2) {
		for _, a := range accs() {
			for _, b := range accs() {
				if got, want := Join(kind, a, b), joined(kind, a, b); got != want {
					t.Fatalf("Join(%d, %v, %v) = %v, want %v", kind, a, b, got, want)
				}
			}
		}
	}
}

// Where there is no such fold, a side without values makes no difference.
func TestP6_2WrongKinds(t *testing.T) {
	full := api.Acc{N: 3, A: 5, B: 7}
	for _, kind := range wrongKinds() {
		for _, pair := range [][2]api.Acc{{full, full}, {full, {}}, {{}, full}, {{A: 1}, {B: 1}}} {
			if got := Join(kind, pair[0], pair[1]); got != (api.Acc{}) {
				t.Errorf("Join(%d, %v, %v) = %v", kind, pair[0], pair[1], got)
			}
		}
	}
}

func TestP6_3Val(t *testing.T) {
	full := api.Acc{N: 3, A: 5, B: 12}
	cases := []struct {
		kind int
		a    api.Acc
		want int64
	}{
		{api.Count, full, 3}, {api.Sum, full, 5}, {api.Least, full, 5}, {api.Greatest, full, 5}, {api.Spread, full, 7},
		{api.Count, api.Acc{N: 1}, 1}, {api.Count, api.Acc{N: greatest}, greatest}, {api.Count, api.Acc{N: -4, A: 1}, -4},
		{api.Sum, api.Acc{N: -4, A: 1}, 1}, {api.Least, api.Acc{N: 1, A: least}, least}, {api.Greatest, api.Acc{N: 1, A: greatest}, greatest},
		{api.Spread, api.Acc{N: 1, A: 5, B: 5}, 0}, {api.Spread, api.Acc{N: 2, A: -5, B: 5}, 10}, {api.Spread, api.Acc{N: 2, A: 12, B: 5}, -7},
		{api.Spread, api.Acc{N: 2, A: least, B: greatest}, -1}, {api.Spread, api.Acc{N: 2, A: -1, B: greatest}, least}, {api.Spread, api.Acc{N: 2, A: 1, B: least}, greatest},
		{api.Spread, All(api.Spread, []int64{5, -2, 9}), 11}, {api.Count, All(api.Count, []int64{5, 5}), 2},
		{api.Least, All(api.Least, nil), 0}, {api.Sum, All(api.Sum, []int64{greatest, 1}), least},
	}
	for _, c := range cases {
		if got := Val(c.kind, c.a); got != c.want {
			t.Errorf("Val(%d, %v) = %d, want %d", c.kind, c.a, got, c.want)
		}
	}
}

func TestP6_3ValOfAny(t *testing.T) {
	for _, a := range accs() {
		want := map[int]int64{1: a.N, 2: a.A, 3: a.A, 4: a.A, 5: difference(a.B, a.A)}
		for _, kind := range append(kinds(), wrongKinds()...) {
			answer := want[kind]
			if a.N == 0 {
				answer = 0
			}
			if got := Val(kind, a); got != answer {
				t.Errorf("Val(%d, %v) = %d, want %d", kind, a, got, answer)
			}
		}
	}
}

func TestP6_4JoinCommutes(t *testing.T) {
	for _, kind := range kinds() {
		for _, l := range lists() {
			for _, m := range lists() {
				a, b := All(kind, l), All(kind, m)
				if ab, ba := Join(kind, a, b), Join(kind, b, a); ab != ba {
					t.Fatalf("fold %d of %v and %v: %v, the other way %v", kind, l, m, ab, ba)
				}
			}
		}
	}
}

func TestP6_4JoinAssociates(t *testing.T) {
	for _, kind := range kinds() {
		for _, l := range some() {
			for _, m := range some() {
				for _, n := range some() {
					a, b, c := All(kind, l), All(kind, m), All(kind, n)
					left, right := Join(kind, Join(kind, a, b), c), Join(kind, a, Join(kind, b, c))
					if left != right {
						t.Fatalf("fold %d of %v, %v and %v: %v from the left, %v from the right", kind, l, m, n, left, right)
					}
				}
			}
		}
	}
}

func TestP6_4JoinIsOfBothLists(t *testing.T) {
	for _, kind := range kinds() {
		for _, l := range lists() {
			for _, m := range lists() {
				got, both := Join(kind, All(kind, l), All(kind, m)), slices.Concat(l, m)
				if got != All(kind, both) || got != defined(kind, both) {
					t.Fatalf("fold %d of %v and %v joined is %v, of all values %v", kind, l, m, got, All(kind, both))
				}
			}
		}
	}
}
