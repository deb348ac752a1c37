package link

import (
	"math"
	"slices"
	"strconv"
	"strings"
	"testing"

	"clepsydra/api"
)

const top = 1 << 30

// wrongNumbers are neither epochs nor numbers; some would be if bits of them were lost.
func wrongNumbers() []int {
	return []int{math.MinInt, -1 << 32, -top, -1, top + 1, top + 2, 1 << 31, 1 << 32, 1<<32 + 3, 1<<33 + top, math.MaxInt}
}

func rightNumbersOf() []int { return []int{0, 1, 3, 7, 255, 256, 65536, top - 9, top - 1, top} }

// rightBodies are of all kinds and lengths; longBodies are just too long, or far.
func rightBodies() []string {
	return []string{"", "a", "\x00", "a\nb", "\xff\xfe", "é", strings.Repeat("x", 255), strings.Repeat("x", 256), strings.Repeat("x", 4095), strings.Repeat("x", 4096), strings.Repeat("é", 2048)}
}

func longBodies() []string {
	return []string{strings.Repeat("x", 4097), strings.Repeat("é", 2049), strings.Repeat("x", 8192), strings.Repeat("x", 65536), strings.Repeat("x", 65536+5)}
}

// body is the text that is pushed as number no in the tests: no two are equal.
func body(no int) string { return "body " + strconv.Itoa(no) }

// bodies are n from a number on.
func bodies(base, n int) []string {
	var l []string
	for i := range n {
		l = append(l, body(base+i))
	}
	return l
}

// of is a sender whose timer is t, if it has any bodies.
func of(epoch, base, n, t int) api.Sender {
	if n == 0 {
		t = 0
	}
	return api.Sender{Epoch: epoch, Base: base, Bodies: bodies(base, n), Timer: t}
}

func with(s api.Sender, change func(s *api.Sender)) api.Sender {
	s = twin(s)
	change(&s)
	return s
}

// twin shares nothing with the sender it is a copy of.
func twin(s api.Sender) api.Sender {
	s.Bodies = append([]string{}, s.Bodies...)
	return s
}

func equal(a, b api.Sender) bool {
	return a.Epoch == b.Epoch && a.Base == b.Base && a.Timer == b.Timer && slices.Equal(a.Bodies, b.Bodies)
}

// told is a sender without the whole of its bodies.
func told(s api.Sender) string {
	return "sender of epoch " + strconv.Itoa(s.Epoch) + ", base " + strconv.Itoa(s.Base) + ", " + strconv.Itoa(len(s.Bodies)) + " bodies, timer " + strconv.Itoa(s.Timer)
}

// rightSenders have each number of bodies, each timer and both ends of the epochs and numbers.
func rightSenders() []api.Sender {
	l := []api.Sender{{Bodies: []string{}}, {Bodies: rightBodies()[:8], Timer: 4}, {Bodies: rightBodies()[3:], Timer: 4}}
	for n := range 9 {
		for _, epoch := range []int{0, 3, top} {
			for _, base := range []int{0, 1, 7, top - 9, top - n - 1, top - n} {
				for t := 1; t <= 4; t++ {
					l = append(l, of(epoch, base, n, t))
				}
			}
		}
	}
	return l
}

// wrongSenders have one thing each that may not be, or more.
func wrongSenders() []api.Sender {
	l := []api.Sender{{Timer: 4}, {Timer: 1}, {Bodies: []string{}, Timer: 4}, {Bodies: []string{""}}, of(3, 0, 9, 4), of(3, 0, 16, 4), of(3, 0, 256, 4), of(3, 0, 256+2, 4), of(top+1, -1, 9, 5)}
	for _, n := range []int{0, 1, 2, 7, 8} {
		for _, wrong := range wrongNumbers() {
			l = append(l, with(of(3, 5, n, 4), func(s *api.Sender) { s.Epoch = wrong }), with(of(3, 5, n, 4), func(s *api.Sender) { s.Base = wrong }))
		}
		for _, t := range []int{math.MinInt, -4, -1, 5, 8, 256 + 2, 1 << 32, 1<<32 + 2, math.MaxInt} {
			l = append(l, with(of(3, 5, n, 4), func(s *api.Sender) { s.Timer = t }))
		}
		for t := range 5 {
			if (n == 0) != (t == 0) {
				l = append(l, with(of(3, 5, n, 4), func(s *api.Sender) { s.Timer = t }))
			}
		}
		for base := top - n + 1; base <= top; base++ {
			l = append(l, of(3, base, n, 4))
		}
		for i := range n {
			for _, long := range longBodies() {
				l = append(l, with(of(3, 5, n, 4), func(s *api.Sender) { s.Bodies[i] = long }))
			}
		}
	}
	for base := math.MaxInt; base > math.MaxInt-8; base-- {
		l = append(l, of(3, base, 8, 4))
	}
	return l
}

func packet(epoch, no int, body string) api.Packet {
	return api.Packet{Epoch: epoch, No: no, Body: body}
}

// packetsOf are those of all bodies of a sender, in order.
func packetsOf(s api.Sender) []api.Packet {
	var l []api.Packet
	for i, b := range s.Bodies {
		l = append(l, packet(s.Epoch, s.Base+i, b))
	}
	return l
}

func checkPush(t *testing.T, s api.Sender, body string, want api.Sender, p api.Packet) {
	t.Helper()
	got, sent, err := Push(s, body)
	if err != api.OK || !equal(got, want) || sent != p {
		t.Errorf("Push to %s: %s, packet %d of epoch %d, %d, want %s, packet %d of epoch %d", told(s), told(got), sent.No, sent.Epoch, err, told(want), p.No, p.Epoch)
	}
}

func checkNoPush(t *testing.T, s api.Sender, body string, want api.Errno) {
	t.Helper()
	got, sent, err := Push(s, body)
	if err != want || !equal(got, api.Sender{}) || sent != (api.Packet{}) {
		t.Errorf("Push of %d bytes to %s: %s, packet %d of epoch %d, %d, want the error %d", len(body), told(s), told(got), sent.No, sent.Epoch, err, want)
	}
}

func checkAck(t *testing.T, s api.Sender, want int, after api.Sender) {
	t.Helper()
	if got, err := Ack(s, s.Epoch, want); err != api.OK || !equal(got, after) {
		t.Errorf("Ack of %d to %s: %s, %d, want %s", want, told(s), told(got), err, told(after))
	}
}

func checkNoAck(t *testing.T, s api.Sender, epoch, want int, e api.Errno) {
	t.Helper()
	if got, err := Ack(s, epoch, want); err != e || !equal(got, api.Sender{}) {
		t.Errorf("Ack(%d, %d) to %s: %s, %d, want the error %d", epoch, want, told(s), told(got), err, e)
	}
}

func checkTick(t *testing.T, s, after api.Sender, want ...api.Packet) {
	t.Helper()
	if got, sent := Tick(s); !equal(got, after) || !slices.Equal(sent, want) {
		t.Errorf("Tick of %s: %s, %d packets, want %s, %d packets", told(s), told(got), len(sent), told(after), len(want))
	}
}

func checkTake(t *testing.T, r api.Receiver, p api.Packet, after api.Receiver, taken bool, e api.Errno) {
	t.Helper()
	if got, is, err := Take(r, p); got != after || is != taken || err != e {
		t.Errorf("Take of packet %d of epoch %d (%d bytes) by %+v: %+v, %t, %d, want %+v, %t, %d", p.No, p.Epoch, len(p.Body), r, got, is, err, after, taken, e)
	}
}

func TestP15_1Right(t *testing.T) {
	for i, s := range rightSenders() {
		if !Right(s) {
			t.Errorf("right sender %d: Right of %s is false", i, told(s))
		}
	}
	for i, s := range wrongSenders() {
		if Right(s) {
			t.Errorf("wrong sender %d: Right of %s is true", i, told(s))
		}
	}
}

// Each body counts, in bytes.
func TestP15_1RightBodies(t *testing.T) {
	for i := range 8 {
		for _, b := range rightBodies() {
			if s := with(of(3, 5, 8, 4), func(s *api.Sender) { s.Bodies[i] = b }); !Right(s) {
				t.Errorf("body %d has %d bytes, and Right is false", i, len(b))
			}
		}
	}
}

func TestP15_1Open(t *testing.T) {
	for _, epoch := range rightNumbersOf() {
		s, r, err := Open(epoch)
		if err != api.OK || !equal(s, api.Sender{Epoch: epoch}) || r != (api.Receiver{Epoch: epoch}) || !Right(s) {
			t.Errorf("Open(%d) = %s, %+v, %d", epoch, told(s), r, err)
		}
	}
	for _, epoch := range wrongNumbers() {
		if s, r, err := Open(epoch); err != api.ErrArg || !equal(s, api.Sender{}) || r != (api.Receiver{}) {
			t.Errorf("Open(%d) = %s, %+v, %d, want the error %d", epoch, told(s), r, err, api.ErrArg)
		}
	}
}

func TestP15_2ByHand(t *testing.T) {
	checkPush(t, api.Sender{Epoch: 3}, "a", api.Sender{Epoch: 3, Bodies: []string{"a"}, Timer: 4}, packet(3, 0, "a"))
	// Only the first body starts the timer.
	for timer := 1; timer <= 4; timer++ {
		one := api.Sender{Epoch: 3, Bodies: []string{"a"}, Timer: timer}
		checkPush(t, one, "b", api.Sender{Epoch: 3, Bodies: []string{"a", "b"}, Timer: timer}, packet(3, 1, "b"))
	}
	checkPush(t, api.Sender{Base: 5}, "", api.Sender{Base: 5, Bodies: []string{""}, Timer: 4}, packet(0, 5, ""))
	checkPush(t, api.Sender{Epoch: top, Base: top - 1}, "z", api.Sender{Epoch: top, Base: top - 1, Bodies: []string{"z"}, Timer: 4}, packet(top, top-1, "z"))
	checkPush(t, of(3, top-8, 7, 2), body(top-1), of(3, top-8, 8, 2), packet(3, top-1, body(top-1)))
	checkPush(t, of(3, 0, 7, 1), body(7), of(3, 0, 8, 1), packet(3, 7, body(7)))
}

func TestP15_2AllSenders(t *testing.T) {
	for _, s := range rightSenders() {
		no := s.Base + len(s.Bodies)
		full := len(s.Bodies) == 8 || no == top
		for _, b := range rightBodies() {
			if full {
				checkNoPush(t, s, b, api.ErrFull)
				continue
			}
			after := with(s, func(s *api.Sender) {
				s.Bodies = append(s.Bodies, b)
				if len(s.Bodies) == 1 {
					s.Timer = 4
				}
			})
			checkPush(t, s, b, after, packet(s.Epoch, no, b))
			if !Right(after) {
				t.Errorf("%s is not valid behind Push", told(after))
			}
		}
		// Too long a body counts ahead of too many.
		for _, b := range longBodies() {
			checkNoPush(t, s, b, api.ErrLong)
		}
	}
}

// A sender that may not be counts ahead of all: among the wrong ones are full ones and those at the last number.
func TestP15_2WrongSenders(t *testing.T) {
	for _, s := range wrongSenders() {
		for _, b := range append(longBodies(), "", "a") {
			checkNoPush(t, s, b, api.ErrArg)
		}
	}
}

func TestP15_3ByHand(t *testing.T) {
	two := api.Sender{Epoch: 3, Bodies: []string{"a", "b"}, Timer: 2}
	checkAck(t, two, -1, two)
	checkAck(t, two, 0, two)
	checkAck(t, two, 1, api.Sender{Epoch: 3, Base: 1, Bodies: []string{"b"}, Timer: 4})
	checkAck(t, two, 2, api.Sender{Epoch: 3, Base: 2})
	checkNoAck(t, two, 3, 3, api.ErrArg)
	checkNoAck(t, two, 2, 2, api.ErrEpoch)
	checkNoAck(t, two, 2, 5, api.ErrEpoch)
	checkNoAck(t, two, 3, 5, api.ErrArg)
	none := api.Sender{Epoch: 3, Base: 7}
	checkAck(t, none, 7, none)
	checkAck(t, none, 6, none)
	checkNoAck(t, none, 3, 8, api.ErrArg)
	checkAck(t, of(0, top-2, 2, 1), top-1, of(0, top-1, 1, 4))
	checkAck(t, of(0, top-2, 2, 1), top, of(0, top, 0, 0))
	checkNoAck(t, of(0, top-2, 2, 1), 0, top+1, api.ErrArg)
	checkAck(t, of(0, top, 0, 0), top, of(0, top, 0, 0))
}

func TestP15_3AllSenders(t *testing.T) {
	for _, s := range rightSenders() {
		end := s.Base + len(s.Bodies)
		for _, want := range []int{math.MinInt, -1 << 32, -top, -1, 0, s.Base - 1, s.Base} {
			checkAck(t, s, min(want, s.Base), s)
		}
		for want := s.Base + 1; want <= end; want++ {
			after := api.Sender{Epoch: s.Epoch, Base: want, Bodies: s.Bodies[want-s.Base:]}
			if len(after.Bodies) > 0 {
				after.Timer = 4
			}
			checkAck(t, s, want, after)
			if !Right(after) {
				t.Errorf("%s is not valid behind Ack", told(after))
			}
		}
		for _, want := range []int{end + 1, end + 8, end + 1<<32, math.MaxInt} {
			checkNoAck(t, s, s.Epoch, want, api.ErrArg)
		}
	}
}

func TestP15_3OtherEpochs(t *testing.T) {
	for _, s := range rightSenders() {
		end := s.Base + len(s.Bodies)
		for _, epoch := range append(wrongNumbers(), s.Epoch-1, s.Epoch+1, s.Epoch+1<<32) {
			for _, want := range []int{math.MinInt, -1, s.Base, end, end + 1, math.MaxInt} {
				checkNoAck(t, s, epoch, want, api.ErrEpoch)
			}
		}
	}
}

func TestP15_3WrongSenders(t *testing.T) {
	for _, s := range wrongSenders() {
		for _, epoch := range []int{s.Epoch, 0, 3, -1, math.MaxInt} {
			for _, want := range []int{math.MinInt, 0, s.Base, s.Base + 1, 6, math.MaxInt} {
				checkNoAck(t, s, epoch, want, api.ErrArg)
			}
		}
	}
}

func TestP15_4ByHand(t *testing.T) {
	one := func(timer int) api.Sender {
		return api.Sender{Epoch: 3, Base: 1, Bodies: []string{"b"}, Timer: timer}
	}
	checkTick(t, one(4), one(3))
	checkTick(t, one(3), one(2))
	checkTick(t, one(2), one(1))
	checkTick(t, one(1), one(4), packet(3, 1, "b"))
	two := api.Sender{Epoch: 9, Base: 5, Bodies: []string{"x", "x"}, Timer: 1}
	checkTick(t, two, with(two, func(s *api.Sender) { s.Timer = 4 }), packet(9, 5, "x"), packet(9, 6, "x"))
}

func TestP15_4AllSenders(t *testing.T) {
	for _, s := range rightSenders() {
		switch {
		case len(s.Bodies) == 0:
			checkTick(t, s, s)
		case s.Timer == 1:
			checkTick(t, s, with(s, func(s *api.Sender) { s.Timer = 4 }), packetsOf(s)...)
		default:
			checkTick(t, s, with(s, func(s *api.Sender) { s.Timer-- }))
		}
	}
}

// Senders that may not be have timers too, among them such as would become 0.
func TestP15_4WrongSenders(t *testing.T) {
	for _, s := range wrongSenders() {
		checkTick(t, s, s)
		if s.Timer == 4 {
			s.Timer = 1
			checkTick(t, s, s)
		}
	}
}

func TestP15_5ByHand(t *testing.T) {
	r := api.Receiver{Epoch: 3}
	checkTake(t, r, packet(3, 1, "b"), r, false, api.OK)
	checkTake(t, r, packet(3, 0, "a"), api.Receiver{Epoch: 3, Want: 1}, true, api.OK)
	r.Want = 1
	checkTake(t, r, packet(3, 0, "a"), r, false, api.OK)
	checkTake(t, r, packet(2, 1, "b"), api.Receiver{}, false, api.ErrEpoch)
	checkTake(t, r, packet(4, 0, "b"), api.Receiver{}, false, api.ErrEpoch)
	// Number 2^30 may be waited for, but never comes.
	last := api.Receiver{Epoch: 3, Want: top}
	checkTake(t, api.Receiver{Epoch: 3, Want: top - 1}, packet(3, top-1, "z"), last, true, api.OK)
	checkTake(t, last, packet(3, top, "z"), last, false, api.OK)
	checkTake(t, last, packet(3, top-1, "z"), last, false, api.OK)
	checkTake(t, last, packet(3, top+1, "z"), api.Receiver{}, false, api.ErrArg)
}

func TestP15_5AllNumbers(t *testing.T) {
	for _, epoch := range rightNumbersOf() {
		for _, want := range rightNumbersOf() {
			r := api.Receiver{Epoch: epoch, Want: want}
			for _, no := range rightNumbersOf() {
				if no == want && want < top {
					checkTake(t, r, packet(epoch, no, "a"), api.Receiver{Epoch: epoch, Want: want + 1}, true, api.OK)
				} else {
					checkTake(t, r, packet(epoch, no, "a"), r, false, api.OK)
				}
				for _, other := range append(wrongNumbers(), epoch-1, epoch+1, epoch+1<<32) {
					checkTake(t, r, packet(other, no, "a"), api.Receiver{}, false, api.ErrEpoch)
				}
			}
			for _, no := range wrongNumbers() {
				checkTake(t, r, packet(epoch, no, "a"), api.Receiver{}, false, api.ErrArg)
				checkTake(t, r, packet(epoch+1, no, "a"), api.Receiver{}, false, api.ErrArg)
			}
		}
	}
}

func TestP15_5Bodies(t *testing.T) {
	r := api.Receiver{Epoch: 3, Want: 5}
	for _, b := range rightBodies() {
		checkTake(t, r, packet(3, 5, b), api.Receiver{Epoch: 3, Want: 6}, true, api.OK)
		checkTake(t, r, packet(3, 6, b), r, false, api.OK)
	}
	for _, b := range longBodies() {
		for no := 4; no <= 6; no++ {
			checkTake(t, r, packet(3, no, b), api.Receiver{}, false, api.ErrArg)
			checkTake(t, r, packet(2, no, b), api.Receiver{}, false, api.ErrArg)
		}
	}
}

func TestP15_5WrongReceivers(t *testing.T) {
	for _, wrong := range wrongNumbers() {
		for _, no := range []int{0, 5, top, wrong} {
			checkTake(t, api.Receiver{Epoch: wrong, Want: 5}, packet(wrong, no, "a"), api.Receiver{}, false, api.ErrArg)
			checkTake(t, api.Receiver{Epoch: wrong, Want: 5}, packet(3, no, "a"), api.Receiver{}, false, api.ErrArg)
			checkTake(t, api.Receiver{Epoch: 3, Want: wrong}, packet(3, no, "a"), api.Receiver{}, false, api.ErrArg)
			checkTake(t, api.Receiver{Epoch: 3, Want: wrong}, packet(2, no, "a"), api.Receiver{}, false, api.ErrArg)
		}
	}
}

// ends are both ends of a link. Whatever was pushed may still be on its way, and any Want so far: nothing needs to be kept to tell them, since number no is always body(no).
type ends struct {
	epoch, base, n, timer, want int
}

func (e ends) sender() api.Sender { return of(e.epoch, e.base, e.n, e.timer) }

func (e ends) receiver() api.Receiver { return api.Receiver{Epoch: e.epoch, Want: e.want} }

// behind is what becomes of the ends by a sender's step, whose bodies must be the ones that were pushed.
func (e ends) behind(t *testing.T, s api.Sender) ends {
	t.Helper()
	if !Right(s) || !slices.Equal(s.Bodies, bodies(s.Base, len(s.Bodies))) || s.Epoch != e.epoch {
		t.Fatalf("from %+v comes %s", e, told(s))
	}
	return ends{e.epoch, s.Base, len(s.Bodies), s.Timer, e.want}
}

// taken delivers a packet: by P15.6 it may be taken only as the next one.
func (e ends) taken(t *testing.T, p api.Packet) ends {
	t.Helper()
	r, is, err := Take(e.receiver(), p)
	if err != api.OK || is != (p.Body == body(e.want)) || is != (r.Want == e.want+1) || !is && r.Want != e.want {
		t.Fatalf("Take of %+v at %+v: %+v, %t, %d", p, e, r, is, err)
	}
	e.want = r.Want
	return e
}

// steps are all that can happen next: a body is pushed, any packet that was ever sent comes, or any Want there ever was, or time goes on.
func (e ends) steps(t *testing.T, from, most int) []ends {
	t.Helper()
	var l []ends
	end := e.base + e.n
	s, p, err := Push(e.sender(), body(end))
	if room := e.n < 8 && end < top; room != (err == api.OK) {
		t.Fatalf("Push at %+v: %d", e, err)
	}
	if err == api.OK && end < most {
		if p != packet(e.epoch, end, body(end)) {
			t.Fatalf("Push at %+v sends %+v", e, p)
		}
		l = append(l, e.behind(t, s))
	}
	for no := from; no < end; no++ {
		l = append(l, e.taken(t, packet(e.epoch, no, body(no))))
	}
	for want := from; want <= e.want; want++ {
		s, err := Ack(e.sender(), e.epoch, want)
		if err != api.OK {
			t.Fatalf("Ack of %d at %+v: %d", want, e, err)
		}
		l = append(l, e.behind(t, s))
	}
	s, sent := Tick(e.sender())
	if len(sent) > 0 && !slices.Equal(sent, packetsOf(e.sender())) {
		t.Fatalf("Tick at %+v sends %+v", e, sent)
	}
	return append(l, e.behind(t, s))
}

// reached are all ends that can come about from a first number on, while numbers below most are pushed.
func reached(t *testing.T, epoch, from, most int) []ends {
	t.Helper()
	l := []ends{{epoch: epoch, base: from, want: from}}
	seen := map[ends]bool{l[0]: true}
	for i := 0; i < len(l); i++ {
		for _, next := range l[i].steps(t, from, most) {
			if !seen[next] {
				seen[next] = true
				l = append(l, next)
			}
		}
	}
	return l
}

func allReached(t *testing.T) []ends {
	t.Helper()
	return slices.Concat(reached(t, 0, 0, 12), reached(t, 3, 100, 111), reached(t, top, top-11, top))
}

// Each step is held against P15.6 as it is taken; here the numbers must fit together as well.
func TestP15_6AllThatCanHappen(t *testing.T) {
	all := allReached(t)
	for _, e := range all {
		if e.want < e.base || e.want > e.base+e.n {
			t.Errorf("%+v: what is waited for was removed, or was never pushed", e)
		}
	}
	for _, e := range []ends{{0, 12, 0, 0, 12}, {0, 0, 8, 1, 8}, {top, top, 0, 0, top}, {top, top - 8, 8, 4, top}, {3, 103, 8, 2, 107}} {
		if !slices.Contains(all, e) {
			t.Errorf("%+v does not come about", e)
		}
	}
}

// random is a fixed rule by which numbers jump about.
type random uint64

func (r *random) below(n int) int {
	*r = *r*6364136223846793005 + 1442695040888963407
	return int(uint64(*r)>>33) % n
}

// run is a link of whose packets and acknowledgments any may be lost, come again, or come late, with those of other epochs among them.
type run struct {
	random
	s       api.Sender
	r       api.Receiver
	way     []api.Packet
	acks    []api.Receiver
	pushed  []string
	arrived []string
}

func opened(t *testing.T, epoch int, seed uint64) *run {
	t.Helper()
	s, r, err := Open(epoch)
	if err != api.OK {
		t.Fatal(err)
	}
	return &run{random: random(seed), s: s, r: r}
}

func (u *run) push(t *testing.T) {
	b := body(u.below(5))
	s, p, err := Push(u.s, b)
	switch {
	case err == api.OK:
		u.s, u.way, u.pushed = s, append(u.way, p), append(u.pushed, b)
	case err != api.ErrFull || len(u.s.Bodies) != 8:
		t.Fatalf("Push to %s: %d", told(u.s), err)
	}
}

func (u *run) deliver(t *testing.T, p api.Packet) {
	r, is, err := Take(u.r, p)
	if p.Epoch != u.r.Epoch {
		if err != api.ErrEpoch || is {
			t.Fatalf("a packet of epoch %d comes in epoch %d: %t, %d", p.Epoch, u.r.Epoch, is, err)
		}
		return
	}
	if err != api.OK {
		t.Fatalf("Take: %d", err)
	}
	if is {
		u.arrived = append(u.arrived, p.Body)
	}
	u.r, u.acks = r, append(u.acks, r)
}

func (u *run) acknowledge(t *testing.T, a api.Receiver) {
	s, err := Ack(u.s, a.Epoch, a.Want)
	if a.Epoch != u.s.Epoch {
		if err != api.ErrEpoch {
			t.Fatalf("an acknowledgment of epoch %d comes in epoch %d: %d", a.Epoch, u.s.Epoch, err)
		}
		return
	}
	if err != api.OK {
		t.Fatalf("Ack: %d", err)
	}
	u.s = s
}

func (u *run) tick() {
	s, sent := Tick(u.s)
	u.s, u.way = s, append(u.way, sent...)
}

// step does one thing; half of what comes stays on its way, to come again.
func (u *run) step(t *testing.T) {
	switch u.below(8) {
	case 0:
		u.push(t)
	case 1, 2, 3:
		if len(u.way) > 0 {
			i := u.below(len(u.way))
			u.deliver(t, u.way[i])
			if u.below(2) == 0 {
				u.way = slices.Delete(u.way, i, i+1)
			}
		}
	case 4, 5:
		if len(u.acks) > 0 {
			i := u.below(len(u.acks))
			u.acknowledge(t, u.acks[i])
			if u.below(2) == 0 {
				u.acks = slices.Delete(u.acks, i, i+1)
			}
		}
	case 6:
		u.tick()
	case 7:
		u.way = slices.Delete(u.way, 0, len(u.way)/2)
		u.acks = slices.Delete(u.acks, 0, len(u.acks)/2)
	}
}

func (u *run) checkPrefix(t *testing.T) {
	t.Helper()
	if len(u.arrived) > len(u.pushed) || !slices.Equal(u.arrived, u.pushed[:len(u.arrived)]) || u.r.Want != len(u.arrived) {
		t.Fatalf("%d bodies were pushed, %d arrived, %d is waited for: they are no prefix", len(u.pushed), len(u.arrived), u.r.Want)
	}
}

// mix has one packet and one acknowledgment of another run come among the others.
func (u *run) mix(other *run) {
	if len(other.way) > 0 && len(other.acks) > 0 {
		u.way = append(u.way, other.way[u.below(len(other.way))])
		u.acks = append(u.acks, other.acks[u.below(len(other.acks))])
	}
}

// unmix leaves those of this epoch.
func (u *run) unmix() {
	u.way = slices.DeleteFunc(u.way, func(p api.Packet) bool { return p.Epoch != u.s.Epoch })
	u.acks = slices.DeleteFunc(u.acks, func(a api.Receiver) bool { return a.Epoch != u.s.Epoch })
}

func TestP15_6LossyRuns(t *testing.T) {
	for seed := range uint64(50) {
		old := opened(t, 6, seed)
		for range 200 {
			old.step(t)
		}
		u := opened(t, 7, seed+1000)
		for range 5000 {
			u.mix(old)
			u.step(t)
			u.unmix()
			u.checkPrefix(t)
		}
		u.recover(t)
		if !slices.Equal(u.arrived, u.pushed) || len(u.pushed) < 40 {
			t.Fatalf("%d bodies were pushed, %d arrived", len(u.pushed), len(u.arrived))
		}
	}
}

// recover is P15.7: what was on its way ahead of it is lost.
func (u *run) recover(t *testing.T) {
	t.Helper()
	u.way, u.acks = nil, nil
	for range 4 {
		u.tick()
	}
	for _, p := range u.way {
		u.deliver(t, p)
		u.checkPrefix(t)
	}
	u.acknowledge(t, u.r)
	if len(u.s.Bodies) != 0 || u.s.Timer != 0 {
		t.Fatalf("behind four ticks, their packets and the acknowledgment: %s", told(u.s))
	}
}

// Packets of another epoch are not taken, be they the next ones by their number or not.
func TestP15_6OtherEpoch(t *testing.T) {
	for _, e := range allReached(t) {
		for no := e.base; no <= e.base+e.n && no <= top; no++ {
			checkTake(t, e.receiver(), packet(e.epoch+1, no, body(no)), api.Receiver{}, false, api.ErrEpoch)
			checkTake(t, e.receiver(), packet(e.epoch-1, no, body(no)), api.Receiver{}, false, api.ErrEpoch)
		}
	}
}

func TestP15_7FromAllThatCanHappen(t *testing.T) {
	for _, e := range allReached(t) {
		s, end := e.sender(), e.base+e.n
		var sent []api.Packet
		for range 4 {
			var l []api.Packet
			s, l = Tick(s)
			sent = append(sent, l...)
		}
		if len(sent) != e.n {
			t.Fatalf("four ticks at %+v send %d packets", e, len(sent))
		}
		for _, p := range sent {
			e = e.taken(t, p)
		}
		s, err := Ack(s, e.epoch, e.want)
		if err != api.OK || len(s.Bodies) != 0 || s.Timer != 0 || s.Base != end || e.want != end {
			t.Fatalf("behind four ticks, their packets and the acknowledgment of %d: %s, %d", e.want, told(s), err)
		}
	}
}

// R4: nothing that was passed changes, and nothing that was answered is a part of it.
func TestR4ListsStay(t *testing.T) {
	for _, s := range append(rightSenders(), wrongSenders()...) {
		before := twin(s)
		pushed, _, _ := Push(s, "new")
		nothing, _ := Ack(s, s.Epoch, s.Base)
		one, _ := Ack(s, s.Epoch, s.Base+1)
		all, _ := Ack(s, s.Epoch, s.Base+len(s.Bodies))
		ticked, sent := Tick(s)
		again := twin(ticked)
		clear(sent)
		if !equal(ticked, again) {
			t.Errorf("%s: a list of what Tick answers is a part of another one", told(s))
		}
		for _, answer := range []api.Sender{pushed, nothing, one, all, ticked} {
			clear(answer.Bodies)
			_ = append(answer.Bodies, "other")
		}
		if !equal(s, before) {
			t.Errorf("%s: it was %s", told(s), told(before))
		}
	}
}

// Two bodies that are pushed to the same sender don't meet, even where its list has room behind its end.
func TestR4RoomBehindTheEnd(t *testing.T) {
	for n := range 8 {
		roomy := of(3, 0, n, 4)
		roomy.Bodies = append(make([]string, 0, 20), roomy.Bodies...)
		a, _, _ := Push(roomy, "a")
		b, _, _ := Push(roomy, "b")
		if a.Bodies[n] != "a" || b.Bodies[n] != "b" || roomy.Bodies[:n+1][n] != "" {
			t.Errorf("behind %d bodies: %q, %q, %q", n, a.Bodies[n], b.Bodies[n], roomy.Bodies[:n+1][n])
		}
	}
}
