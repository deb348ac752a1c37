package mark

import (
	"math"
	"slices"
	"testing"

	"clepsydra/api"
)

const (
	least    = math.MinInt64
	greatest = math.MaxInt64
	final    = 1 << 40
)

// numbers has both sides of each bound of a time, and numbers that are times only if some of their bits are lost.
func numbers() []int64 {
	return []int64{least, least + 1, -final - 1, -final, -1 << 32, -7, -1, 0, 1, 2, 4, 5, 6, 1 << 32, final - 1, final, final + 1, 1 << 41, 1<<62 + 5, greatest - 1, greatest}
}

func times() []int64 { return []int64{0, 1, 4, 5, 6, 1 << 32, final - 1, final} }

func wrongTimes() []int64 {
	return []int64{least, -final, -1 << 32, -1, final + 1, 1 << 41, 1<<62 + 5, greatest}
}

// asTime is chapter 1's word 'clamped', written apart from the package.
func asTime(t int64) int64 {
	switch {
	case t < 0:
		return 0
	case t > final:
		return final
	}
	return t
}

func at(mark int64) api.Input { return api.Input{Mark: mark} }

func idle(mark int64) api.Input { return api.Input{Mark: mark, Idle: true} }

func of(out int64, inputs ...api.Input) api.Marks { return api.Marks{Inputs: inputs, Out: out} }

func held(out int64, holds []api.Hold, inputs ...api.Input) api.Marks {
	return api.Marks{Inputs: inputs, Holds: holds, Out: out}
}

// holds are n of them with gaps between their numbers, so that one can be added ahead, between and behind; each has a time of its own.
func holds(n int) []api.Hold {
	var l []api.Hold
	for i := range n {
		l = append(l, api.Hold{No: 10*i + 5, At: int64(1000 - i)})
	}
	return l
}

func inputs(n int) []api.Input {
	var l []api.Input
	for i := range n {
		l = append(l, api.Input{Mark: int64(10 * i), Idle: i%3 == 1})
	}
	return l
}

func equal(a, b api.Marks) bool {
	return slices.Equal(a.Inputs, b.Inputs) && slices.Equal(a.Holds, b.Holds) && a.Out == b.Out
}

func isZero(m api.Marks) bool { return len(m.Inputs) == 0 && len(m.Holds) == 0 && m.Out == 0 }

// twin shares nothing with the marks it is a copy of.
func twin(m api.Marks) api.Marks {
	return api.Marks{Inputs: append([]api.Input{}, m.Inputs...), Holds: append([]api.Hold{}, m.Holds...), Out: m.Out}
}

// permittedTime is the chapter's 'permitted time': it tries which of the times is not greater than any.
func permittedTime(m api.Marks) int64 {
	var all []int64
	for _, in := range m.Inputs {
		if !in.Idle {
			all = append(all, in.Mark)
		}
	}
	for _, h := range m.Holds {
		all = append(all, h.At)
	}
	for _, t := range all {
		if !slices.ContainsFunc(all, func(u int64) bool { return u < t }) {
			return t
		}
	}
	return m.Out
}

func rightMarks() []api.Marks {
	l := []api.Marks{
		of(0, at(0)), of(final, at(0)), of(0, at(final)), of(final, at(final)), of(7, idle(9)), of(7, idle(0), idle(final)),
		of(4, at(5), at(3)), of(3, at(5), idle(3)), of(5, at(6), at(6), at(5), at(7)), of(0, inputs(8)...), of(1, inputs(7)...),
		held(5, []api.Hold{{No: 0, At: 0}}, at(9)), held(5, []api.Hold{{No: math.MaxInt, At: final}}, idle(9)),
		held(0, []api.Hold{{No: 0, At: 7}, {No: 1, At: 7}}, at(8)), held(0, []api.Hold{{No: 7, At: 4}}, at(9), at(9)),
		held(0, []api.Hold{{No: 0, At: 9}, {No: 7, At: 3}, {No: math.MaxInt, At: 6}}, at(5), idle(1)),
		held(2, holds(31), at(1<<33)), held(2, holds(32), at(1<<33)), held(2, holds(32), inputs(8)...), held(final, holds(32), idle(5)),
		{Inputs: []api.Input{at(1)}, Holds: []api.Hold{}, Out: 1},
	}
	for _, t := range times() {
		l = append(l, of(t, at(3)), of(0, at(1), at(t)), of(0, at(1), idle(t)), held(0, []api.Hold{{No: 3, At: t}}, at(2)))
	}
	return l
}

// wrongMarks have something each that may not be, most of them one thing alone.
func wrongMarks() []api.Marks {
	l := []api.Marks{
		{}, {Inputs: []api.Input{}}, {Out: 5}, held(5, holds(3)), of(0, inputs(9)...), of(0, inputs(16)...), of(0, inputs(256+2)...), held(9, holds(2), inputs(9)...),
		held(0, holds(33), at(5)), held(0, holds(64), at(5)), held(0, holds(256+2), at(5)),
		held(0, []api.Hold{{No: -1, At: 5}}, at(5)), held(0, []api.Hold{{No: math.MinInt, At: 5}}, at(5)), held(0, []api.Hold{{No: -2, At: 5}, {No: -1, At: 5}, {No: 3, At: 5}}, at(5)),
		held(0, []api.Hold{{No: 3, At: 5}, {No: 3, At: 6}}, at(5)), held(0, []api.Hold{{No: 4, At: 5}, {No: 3, At: 6}}, at(5)),
		held(0, []api.Hold{{No: 1, At: 5}, {No: 2, At: 5}, {No: 2, At: 5}}, at(5)), held(0, []api.Hold{{No: 1, At: 5}, {No: 9, At: 5}, {No: 4, At: 5}}, at(5)),
		held(0, []api.Hold{{No: 0, At: 5}, {No: 0, At: 5}}, at(5)), held(0, []api.Hold{{No: math.MaxInt, At: 5}, {No: 0, At: 5}}, at(5)),
	}
	for _, t := range wrongTimes() {
		l = append(l, of(t, at(5)), of(5, at(t)), of(5, idle(t)), of(5, at(1), at(t)), of(5, at(t), at(1)), of(5, at(1), idle(t), at(2)),
			held(5, []api.Hold{{No: 3, At: t}}, at(2)), held(5, []api.Hold{{No: 3, At: t}, {No: 4, At: 9}}, at(2)), held(5, []api.Hold{{No: 3, At: 9}, {No: 4, At: t}}, at(2)))
	}
	return l
}

func TestP10_1Right(t *testing.T) {
	for i, m := range rightMarks() {
		if !Right(m) {
			t.Errorf("right marks %d: Right(%v) is false", i, m)
		}
	}
	for i, m := range wrongMarks() {
		if Right(m) {
			t.Errorf("wrong marks %d: Right(%v) is true", i, m)
		}
	}
}

func TestP10_1New(t *testing.T) {
	for n := 1; n <= 8; n++ {
		m, e := New(n)
		if want := of(0, make([]api.Input, n)...); e != api.OK || !equal(m, want) || !Right(m) {
			t.Errorf("New(%d) = %v, %v", n, m, e)
		}
	}
	for _, n := range []int{math.MinInt, -8, -1, 0, 9, 10, 16, 1<<8 + 2, 1<<16 + 2, 1<<31 - 1, math.MaxInt} {
		if m, e := New(n); e != api.ErrArg || !isZero(m) {
			t.Errorf("New(%d) = %v, %v", n, m, e)
		}
	}
}

func TestP10_2Set(t *testing.T) {
	for _, m := range rightMarks() {
		for i := range m.Inputs {
			for _, at := range numbers() {
				want := twin(m)
				want.Inputs[i].Idle = false
				if asTime(at) > want.Inputs[i].Mark {
					want.Inputs[i].Mark = asTime(at)
				}
				if got, e := Set(m, i, at); e != api.OK || !equal(got, want) || !Right(got) {
					t.Errorf("Set(%v, %d, %d) = %v, %v, want %v", m, i, at, got, e, want)
				}
			}
		}
	}
}

func TestP10_2SetByHand(t *testing.T) {
	cases := []struct {
		m    api.Marks
		i    int
		at   int64
		want api.Marks
	}{
		{of(0, at(0), at(0)), 1, 3, of(0, at(0), at(3))},
		{of(0, at(4), at(2)), 0, 5, of(0, at(5), at(2))},
		{of(0, at(4), at(2)), 0, 4, of(0, at(4), at(2))},
		{of(0, at(4), at(2)), 0, 3, of(0, at(4), at(2))},
		{of(0, at(4), idle(2)), 1, 3, of(0, at(4), at(3))},
		{of(3, at(4), idle(2)), 1, 1, of(3, at(4), at(2))},
		{of(0, idle(2)), 0, -1, of(0, at(2))},
		{of(0, idle(2)), 0, least, of(0, at(2))},
		{of(0, at(2)), 0, final, of(0, at(final))},
		{of(0, at(2)), 0, final + 1, of(0, at(final))},
		{of(0, at(2)), 0, greatest, of(0, at(final))},
		{of(0, at(final)), 0, greatest, of(0, at(final))},
		{held(9, holds(2), at(1), at(2), at(3)), 2, 8, held(9, holds(2), at(1), at(2), at(8))},
	}
	for _, c := range cases {
		if got, e := Set(c.m, c.i, c.at); e != api.OK || !equal(got, c.want) {
			t.Errorf("Set(%v, %d, %d) = %v, %v, want %v", c.m, c.i, c.at, got, e, c.want)
		}
	}
}

func TestP10_2Idle(t *testing.T) {
	for _, m := range rightMarks() {
		for i := range m.Inputs {
			want := twin(m)
			want.Inputs[i] = idle(m.Inputs[i].Mark)
			got, e := Idle(m, i)
			if e != api.OK || !equal(got, want) || !Right(got) {
				t.Errorf("Idle(%v, %d) = %v, %v, want %v", m, i, got, e, want)
			}
			if again, e := Idle(got, i); e != api.OK || !equal(again, want) {
				t.Errorf("Idle(%v, %d) = %v, %v, want the same", got, i, again, e)
			}
		}
	}
}

func TestP10_2WrongInput(t *testing.T) {
	for _, m := range rightMarks() {
		n := len(m.Inputs)
		for _, i := range []int{math.MinInt, -n - 1, -n, -2, -1, n, n + 1, 8, 9, 1<<8 + n, 1 << 8, 1 << 16, 1<<31 - 1, math.MaxInt} {
			if i >= 0 && i < n {
				continue
			}
			if got, e := Set(m, i, 5); e != api.ErrArg || !isZero(got) {
				t.Errorf("Set(%v, %d, 5) = %v, %v", m, i, got, e)
			}
			if got, e := Idle(m, i); e != api.ErrArg || !isZero(got) {
				t.Errorf("Idle(%v, %d) = %v, %v", m, i, got, e)
			}
		}
	}
}

func TestP10_2WrongMarks(t *testing.T) {
	for _, m := range wrongMarks() {
		for _, i := range []int{-1, 0, 1, 8, math.MinInt, math.MaxInt} {
			for _, at := range []int64{least, 0, 5, greatest} {
				if got, e := Set(m, i, at); e != api.ErrArg || !isZero(got) {
					t.Errorf("Set(%v, %d, %d) = %v, %v", m, i, at, got, e)
				}
			}
			if got, e := Idle(m, i); e != api.ErrArg || !isZero(got) {
				t.Errorf("Idle(%v, %d) = %v, %v", m, i, got, e)
			}
		}
	}
}

// nos are numbers of holds: those of the lists here, their neighbours, and the ends.
func nos() []int {
	return []int{0, 1, 3, 4, 5, 6, 7, 14, 15, 16, 150, 155, 304, 305, 306, 315, 316, 1 << 16, 1<<31 - 1, math.MaxInt - 1, math.MaxInt}
}

// withHold is the marks with the hold put where its number has it, found by going through all of them.
func withHold(m api.Marks, h api.Hold) api.Marks {
	var l []api.Hold
	for _, o := range m.Holds {
		if o.No < h.No {
			l = append(l, o)
		}
	}
	l = append(l, h)
	for _, o := range m.Holds {
		if o.No > h.No {
			l = append(l, o)
		}
	}
	return held(m.Out, l, m.Inputs...)
}

func without(m api.Marks, no int) api.Marks {
	var l []api.Hold
	for _, h := range m.Holds {
		if h.No != no {
			l = append(l, h)
		}
	}
	return held(m.Out, l, m.Inputs...)
}

func hasHold(m api.Marks, no int) bool {
	return slices.ContainsFunc(m.Holds, func(h api.Hold) bool { return h.No == no })
}

func TestP10_3Hold(t *testing.T) {
	for _, m := range rightMarks() {
		for _, no := range nos() {
			for _, at := range numbers() {
				want, wantE := withHold(m, api.Hold{No: no, At: asTime(at)}), api.OK
				if len(m.Holds) == 32 && !hasHold(m, no) {
					want, wantE = api.Marks{}, api.ErrFull
				}
				got, e := Hold(m, no, at)
				if e != wantE || !equal(got, want) || e == api.OK && !Right(got) {
					t.Errorf("Hold(%v, %d, %d) = %v, %v, want %v, %v", m, no, at, got, e, want, wantE)
				}
			}
		}
	}
}

func TestP10_3HoldByHand(t *testing.T) {
	m, _ := New(1)
	steps := []struct {
		no   int
		at   int64
		want []api.Hold
	}{
		{7, 4, []api.Hold{{No: 7, At: 4}}},
		{0, 9, []api.Hold{{No: 0, At: 9}, {No: 7, At: 4}}},
		{9, 2, []api.Hold{{No: 0, At: 9}, {No: 7, At: 4}, {No: 9, At: 2}}},
		{8, 3, []api.Hold{{No: 0, At: 9}, {No: 7, At: 4}, {No: 8, At: 3}, {No: 9, At: 2}}},
		{7, 5, []api.Hold{{No: 0, At: 9}, {No: 7, At: 5}, {No: 8, At: 3}, {No: 9, At: 2}}},
		{7, 1, []api.Hold{{No: 0, At: 9}, {No: 7, At: 1}, {No: 8, At: 3}, {No: 9, At: 2}}},
		{9, -1, []api.Hold{{No: 0, At: 9}, {No: 7, At: 1}, {No: 8, At: 3}, {No: 9, At: 0}}},
		{0, greatest, []api.Hold{{No: 0, At: final}, {No: 7, At: 1}, {No: 8, At: 3}, {No: 9, At: 0}}},
	}
	for _, s := range steps {
		next, e := Hold(m, s.no, s.at)
		if e != api.OK || !slices.Equal(next.Holds, s.want) || !slices.Equal(next.Inputs, m.Inputs) || next.Out != 0 {
			t.Fatalf("Hold(%v, %d, %d) = %v, %v, want %v", m, s.no, s.at, next, e, s.want)
		}
		m = next
	}
}

func TestP10_3HoldFull(t *testing.T) {
	m, _ := New(1)
	for no := range 32 {
		next, e := Hold(m, 2*(31-no)+1, int64(no))
		if e != api.OK || len(next.Holds) != no+1 || !Right(next) {
			t.Fatalf("hold %d: %v, %v", no, next, e)
		}
		m = next
	}
	for _, no := range []int{0, 2, 62, 64, math.MaxInt} {
		if got, e := Hold(m, no, 5); e != api.ErrFull || !isZero(got) {
			t.Errorf("a hold more, with the number %d: %v, %v", no, got, e)
		}
	}
	for _, no := range []int{1, 33, 63} {
		if got, e := Hold(m, no, 77); e != api.OK || !equal(got, withHold(m, api.Hold{No: no, At: 77})) {
			t.Errorf("hold %d of full marks: %v, %v", no, got, e)
		}
	}
	less, _ := Free(m, 33)
	if got, e := Hold(less, 32, 5); e != api.OK || len(got.Holds) != 32 {
		t.Errorf("a hold in a free place: %v, %v", got, e)
	}
}

func TestP10_3HoldWrong(t *testing.T) {
	for _, m := range rightMarks() {
		for _, no := range []int{-1, -2, -5, -1 << 31, math.MinInt} {
			// Full marks are among these: ErrArg goes ahead of ErrFull.
			if got, e := Hold(m, no, 5); e != api.ErrArg || !isZero(got) {
				t.Errorf("Hold(%v, %d, 5) = %v, %v", m, no, got, e)
			}
		}
	}
	for _, m := range wrongMarks() {
		for _, no := range append(nos(), -1, -2, math.MinInt) {
			for _, at := range []int64{least, 0, 5, greatest} {
				if got, e := Hold(m, no, at); e != api.ErrArg || !isZero(got) {
					t.Errorf("Hold(%v, %d, %d) = %v, %v", m, no, at, got, e)
				}
			}
		}
	}
}

func TestP10_3HoldWrongAndFull(t *testing.T) {
	full := []api.Marks{held(0, holds(32)), held(-1, holds(32), at(5)), held(0, holds(32), at(-1)), held(0, holds(33), at(5))}
	twice := holds(32)
	twice[31] = twice[30]
	for _, m := range append(full, held(0, twice, at(5))) {
		for _, no := range []int{0, 7, 999, -1} {
			if got, e := Hold(m, no, 5); e != api.ErrArg || !isZero(got) {
				t.Errorf("Hold(%v, %d, 5) = %v, %v", m, no, got, e)
			}
		}
	}
}

func TestP10_3Free(t *testing.T) {
	for _, m := range rightMarks() {
		for _, no := range append(nos(), -1, -5, math.MinInt) {
			want, wantE := without(m, no), api.OK
			if !hasHold(m, no) {
				want, wantE = api.Marks{}, api.ErrArg
			}
			got, e := Free(m, no)
			if e != wantE || !equal(got, want) || e == api.OK && !Right(got) {
				t.Errorf("Free(%v, %d) = %v, %v, want %v, %v", m, no, got, e, want, wantE)
			}
			if again, e := Free(got, no); e != api.ErrArg || !isZero(again) {
				t.Errorf("Free(%v, %d) = %v, %v, though it went", got, no, again, e)
			}
		}
	}
}

func TestP10_3FreeAll(t *testing.T) {
	for _, step := range []int{1, 3, 5, 31} {
		m := held(4, holds(32), inputs(3)...)
		for i := range 32 {
			no := 10*(i*step%32) + 5
			next, e := Free(m, no)
			if e != api.OK || !equal(next, without(m, no)) || len(next.Holds) != 31-i {
				t.Fatalf("Free(%v, %d) = %v, %v", m, no, next, e)
			}
			m = next
		}
	}
}

func TestP10_3FreeWrong(t *testing.T) {
	for _, m := range wrongMarks() {
		for _, no := range append(nos(), -1, -2, math.MinInt) {
			if got, e := Free(m, no); e != api.ErrArg || !isZero(got) {
				t.Errorf("Free(%v, %d) = %v, %v", m, no, got, e)
			}
		}
	}
}

func TestP10_4Tell(t *testing.T) {
	for _, m := range rightMarks() {
		for _, out := range times() {
			m.Out = out
			want, later := twin(m), permittedTime(m) > out
			if later {
				want.Out = permittedTime(m)
			}
			got, at, is := Tell(m)
			if !equal(got, want) || at != want.Out || is != later {
				t.Errorf("Tell(%v) = %v, %d, %v, want %v, %v", m, got, at, is, want, later)
			}
			if again, at, is := Tell(got); !equal(again, want) || at != want.Out || is {
				t.Errorf("Tell(%v) = %v, %d, %v, want the same once more", got, again, at, is)
			}
		}
	}
}

func TestP10_4TellByHand(t *testing.T) {
	cases := []struct {
		m     api.Marks
		want  int64
		later bool
	}{
		{of(0, at(5), at(3)), 3, true},
		{of(0, at(3), at(5)), 3, true},
		{of(3, at(5), at(3)), 3, false},
		{of(4, at(5), at(3)), 4, false},
		{of(2, at(5), at(3)), 3, true},
		{of(3, at(5), idle(3)), 5, true},
		{of(3, idle(3), at(5)), 5, true},
		{of(3, idle(9), at(5)), 5, true},
		{of(3, idle(5), idle(9)), 3, false},
		{of(0, idle(final)), 0, false},
		{of(final, idle(0)), final, false},
		{of(0, at(0)), 0, false},
		{of(0, at(final)), final, true},
		{of(final, at(final)), final, false},
		{of(final-1, at(final)), final, true},
		{of(0, at(8), at(7), at(6), at(5), at(4), at(3), at(2), at(1)), 1, true},
		{of(0, at(1), at(2), at(3), at(4), at(5), at(6), at(7), at(8)), 1, true},
		{of(0, idle(0), idle(1), idle(2), at(9), idle(3), idle(4), idle(5), idle(6)), 9, true},
		{held(0, []api.Hold{{No: 7, At: 4}}, at(9), at(9)), 4, true},
		{held(5, []api.Hold{{No: 7, At: 4}}, at(9), at(9)), 5, false},
		{held(0, []api.Hold{{No: 7, At: 14}}, at(9), at(10)), 9, true},
		{held(0, []api.Hold{{No: 7, At: 4}}, idle(1)), 4, true},
		{held(0, []api.Hold{{No: 7, At: 0}}, at(5)), 0, false},
		{held(0, []api.Hold{{No: 1, At: 3}, {No: 2, At: 2}, {No: 3, At: 4}}, at(9)), 2, true},
		{held(0, []api.Hold{{No: 1, At: 2}, {No: 2, At: 3}}, idle(0), idle(0)), 2, true},
		{held(3, []api.Hold{{No: 1, At: final}}, idle(0)), final, true},
		{held(0, holds(32), at(1<<20)), 969, true},
		{held(969, holds(32), at(1<<20)), 969, false},
	}
	for _, c := range cases {
		want := twin(c.m)
		want.Out = c.want
		if got, at, is := Tell(c.m); !equal(got, want) || at != c.want || is != c.later {
			t.Errorf("Tell(%v) = %v, %d, %v, want %d, %v", c.m, got, at, is, c.want, c.later)
		}
	}
}

func TestP10_4TellWrong(t *testing.T) {
	for _, m := range wrongMarks() {
		if got, at, is := Tell(m); !isZero(got) || at != 0 || is {
			t.Errorf("Tell(%v) = %v, %d, %v", m, got, at, is)
		}
	}
}

func TestP10_4Examples(t *testing.T) {
	m, _ := New(2)
	tell := func(want int64, later bool) {
		t.Helper()
		next, at, is := Tell(m)
		if at != want || is != later || next.Out != want {
			t.Errorf("Tell(%v) = %v, %d, %v, want %d, %v", m, next, at, is, want, later)
		}
		m = next
	}
	m, _ = Set(m, 0, 5)
	m, _ = Set(m, 1, 3)
	tell(3, true)
	m, _ = Idle(m, 1)
	tell(5, true)
	m, _ = Set(m, 1, 4)
	tell(5, false)
	m, _ = Hold(m, 7, 4)
	m, _ = Set(m, 0, 9)
	m, _ = Set(m, 1, 9)
	tell(5, false)
	m, _ = Free(m, 7)
	tell(9, true)
}

// stir is a row of numbers that looks disordered and is the same each time.
type stir uint32

func (s *stir) next(n int) int {
	*s = *s*1664525 + 1013904223
	return int(uint32(*s)>>16) % n
}

// turn makes one call of any kind, right or wrong; after an error the marks are the ones before.
func turn(m api.Marks, s *stir) api.Marks {
	next, e := m, api.OK
	no, i, t := s.next(40), s.next(5)-1, int64(s.next(300)-20)
	switch s.next(6) {
	case 0, 1:
		next, e = Set(m, i, m.Out+t)
	case 2:
		next, e = Idle(m, i)
	case 3:
		next, e = Hold(m, no, m.Out+t)
	default:
		next, e = Free(m, no)
	}
	if e != api.OK {
		return m
	}
	return next
}

func TestP10_5OutNeverDecreases(t *testing.T) {
	s, increases := stir(1), 0
	for range 20 {
		m, _ := New(3)
		for range 400 {
			next := turn(m, &s)
			if next.Out != m.Out || !Right(next) {
				t.Fatalf("%v became %v", m, next)
			}
			told, at, later := Tell(next)
			if at < m.Out || at != told.Out || later != (at > m.Out) || !Right(told) {
				t.Fatalf("Tell(%v) = %v, %d, %v", next, told, at, later)
			}
			if later {
				increases++
				notGreater(t, next, at)
			}
			m = told
		}
	}
	if increases < 100 {
		t.Error("only so many increases:", increases)
	}
}

func notGreater(t *testing.T, m api.Marks, told int64) {
	t.Helper()
	for _, in := range m.Inputs {
		if !in.Idle && told > in.Mark {
			t.Errorf("%d was told of %v", told, m)
		}
	}
	for _, h := range m.Holds {
		if told > h.At {
			t.Errorf("%d was told of %v", told, m)
		}
	}
}

func TestP10_5FinalAndIdleDelayNothing(t *testing.T) {
	for _, m := range rightMarks() {
		active := slices.ContainsFunc(m.Inputs, func(in api.Input) bool { return !in.Idle })
		if len(m.Inputs) == 8 || !active {
			continue
		}
		_, want, later := Tell(m)
		for _, in := range []api.Input{at(final), idle(0), idle(3), idle(final)} {
			for i := range len(m.Inputs) + 1 {
				more := twin(m)
				more.Inputs = slices.Insert(more.Inputs, i, in)
				if _, got, is := Tell(more); got != want || is != later {
					t.Errorf("Tell(%v) tells %d, %v, though Tell(%v) tells %d, %v", more, got, is, m, want, later)
				}
			}
		}
	}
}

func TestP10_5FinalIsToldInTheEnd(t *testing.T) {
	m, _ := New(3)
	m, _ = Set(m, 0, greatest)
	m, _ = Set(m, 2, final)
	m, _ = Idle(m, 1)
	if _, at, later := Tell(m); at != final || !later {
		t.Errorf("%d, %v", at, later)
	}
	m, _ = Set(m, 1, 6)
	if _, at, later := Tell(m); at != 6 || !later {
		t.Errorf("%d, %v", at, later)
	}
}

// calls are one of each of the package's calls, on marks that have inputs and a hold with the number 5.
func calls() []func(api.Marks) api.Marks {
	return []func(api.Marks) api.Marks{
		func(m api.Marks) api.Marks { m, _ = Set(m, 0, 1<<39); return m },
		func(m api.Marks) api.Marks { m, _ = Set(m, 1, 0); return m },
		func(m api.Marks) api.Marks { m, _ = Idle(m, 0); return m },
		func(m api.Marks) api.Marks { m, _ = Hold(m, 5, 77); return m },
		func(m api.Marks) api.Marks { m, _ = Hold(m, 0, 77); return m },
		func(m api.Marks) api.Marks { m, _ = Hold(m, 999, 77); return m },
		func(m api.Marks) api.Marks { m, _ = Free(m, 5); return m },
		func(m api.Marks) api.Marks { m, _, _ = Tell(m); return m },
		func(m api.Marks) api.Marks { m, _ = Set(m, -1, 5); return m },
		func(m api.Marks) api.Marks { m, _ = Hold(m, -1, 5); return m },
		func(m api.Marks) api.Marks { m, _ = Free(m, 6); return m },
	}
}

// roomy has the marks' lists with room behind them, which no call may write to.
func roomy(m api.Marks) api.Marks {
	in := append(twin(m).Inputs, idle(-7), idle(-8))
	h := append(twin(m).Holds, api.Hold{No: -7, At: -7}, api.Hold{No: -8, At: -8})
	return api.Marks{Inputs: in[:len(m.Inputs)], Holds: h[:len(m.Holds)], Out: m.Out}
}

func TestR4ArgumentsStay(t *testing.T) {
	for _, n := range []int{1, 2, 31, 32} {
		for i, call := range calls() {
			m := roomy(held(4, holds(n), inputs(4)...))
			whole := api.Marks{Inputs: m.Inputs[:6], Holds: m.Holds[:n+2], Out: m.Out}
			before := twin(whole)
			call(m)
			if !equal(whole, before) {
				t.Errorf("call %d with %d holds: %v became %v", i, n, before, whole)
			}
		}
	}
}

func TestR4AnswersShareNothing(t *testing.T) {
	for _, n := range []int{1, 2, 31, 32} {
		for i, call := range calls() {
			m := roomy(held(4, holds(n), inputs(4)...))
			got := call(m)
			want := twin(got)
			for j := range m.Inputs {
				m.Inputs[j] = idle(-9)
			}
			for j := range m.Holds {
				m.Holds[j] = api.Hold{No: -9, At: -9}
			}
			if !equal(got, want) {
				t.Errorf("call %d with %d holds: the answer %v became %v", i, n, want, got)
			}
		}
	}
	a, _ := New(2)
	b, _ := New(2)
	a.Inputs[0] = at(9)
	if b.Inputs[0] != at(0) {
		t.Error("two answers of New share their inputs")
	}
}

func TestR1SameAgain(t *testing.T) {
	for _, m := range rightMarks() {
		for i, call := range calls() {
			first := call(m)
			wanted := twin(first)
			call(of(9, at(9)))
			if again := call(m); !equal(again, wanted) || !equal(first, wanted) {
				t.Errorf("call %d of %v: %v, then %v", i, m, wanted, again)
			}
		}
	}
}
