package item

import (
	"math"
	"strings"
	"testing"

	"clepsydra/api"
	"clepsydra/vlq"
)

// digits is the word 'encoding of a number' of chapter 2, written apart from the packages.
func digits(n uint64) string {
	s := string([]byte{byte(n % 128)})
	for n /= 128; n > 0; n /= 128 {
		s = string([]byte{byte(n%128 + 128)}) + s
	}
	return s
}

func signed(n int64) string { return digits(uint64(n)<<1 ^ uint64(n>>63)) }

func text(s string) string { return digits(uint64(len(s))) + s }

// eventBytes and resultBytes write these items whether they are valid or not, so that wrong ones can be read too.
func eventBytes(e api.Event) string {
	return "\x01" + text(e.Key) + digits(uint64(e.At)) + signed(e.Val)
}

func resultBytes(r api.Result) string {
	return "\x05" + text(r.Key) + digits(uint64(r.Lo)) + digits(uint64(r.Hi)) + digits(uint64(r.N)) + signed(r.Val)
}

// spelt is the chapter's words 'the encoding of an item', written apart from the package.
func spelt(i api.Item) string {
	return map[int]string{
		api.KEvent:   eventBytes(i.Event),
		api.KMark:    "\x02" + digits(uint64(i.Mark)),
		api.KIdle:    "\x03",
		api.KBarrier: "\x04" + digits(uint64(i.N)),
		api.KResult:  resultBytes(i.Result),
	}[i.Kind]
}

func eventOf(key string, at, val int64) api.Event { return api.Event{Key: key, At: at, Val: val} }

func resultOf(key string, lo, hi, n, val int64) api.Result {
	return api.Result{Key: key, Window: api.Window{Lo: lo, Hi: hi}, N: n, Val: val}
}

// judged is a value with what the chapter says of it.
type judged[T any] struct {
	value T
	valid bool
}

// Sixteen bytes are what a key may have at most; letters of two bytes show that it is bytes that count.
var (
	longest = strings.Repeat("\u00fc", 8)
	tooLong = strings.Repeat("\u00fc", 8) + "x"
)

func judgedEvents() []judged[api.Event] {
	return []judged[api.Event]{
		{api.Event{}, false},
		{eventOf("a", 5, -1), true}, {eventOf("a", 0, 0), true}, {eventOf("a", 0, math.MinInt64), true}, {eventOf("a", 1, math.MaxInt64), true},
		{eventOf("\x00", api.Final-1, 1), true}, {eventOf("\xff\xfe", 127, 0), true}, {eventOf("\x80", 128, 64), true},
		{eventOf(longest, 300, -64), true}, {eventOf(longest[:15], 3, 0), true}, {eventOf(tooLong, 300, 0), false},
		{eventOf(strings.Repeat("x", 4096), 0, 0), false}, {eventOf(strings.Repeat("x", 4097), 0, 0), false},
		{eventOf("", 5, 1), false}, {eventOf("", 0, 1), false}, {eventOf("", 5, 0), false}, {eventOf("a", -1, 0), false}, {eventOf("a", api.Final, 0), false},
		{eventOf("a", api.Final+1, 0), false}, {eventOf("a", math.MinInt64, 0), false}, {eventOf("a", math.MaxInt64, 0), false},
		{eventOf(tooLong, -1, 0), false},
	}
}

func judgedResults() []judged[api.Result] {
	most := int64(1 << 30)
	return []judged[api.Result]{
		{api.Result{}, false},
		{resultOf("a", 0, 10, 1, 1), true}, {resultOf("a", 0, 1, 1, 0), true}, {resultOf("a", 0, api.Final, most, math.MinInt64), true},
		{resultOf("a", api.Final-1, api.Final, most-1, math.MaxInt64), true}, {resultOf("\x00\xff", 127, 128, 2, -1), true},
		{resultOf(longest, 299, 300, 127, -64), true}, {resultOf(tooLong, 299, 300, 127, 0), false}, {resultOf("", 0, 10, 1, 1), false},
		{resultOf(strings.Repeat("x", 4096), 0, 10, 1, 1), false}, {resultOf(strings.Repeat("x", 4097), 0, 10, 1, 1), false},
		{resultOf("a", 10, 10, 1, 1), false}, {resultOf("a", 11, 10, 1, 1), false}, {resultOf("a", 0, 0, 1, 1), false}, {resultOf("a", -1, 10, 1, 1), false},
		{resultOf("a", -1, 0, 1, 1), false}, {resultOf("a", math.MinInt64, 10, 1, 1), false}, {resultOf("a", 0, -1, 1, 1), false},
		{resultOf("a", math.MinInt64, math.MaxInt64, 1, 1), false}, {resultOf("a", math.MaxInt64, math.MinInt64, 1, 1), false},
		{resultOf("a", 0, api.Final+1, 1, 1), false}, {resultOf("a", api.Final, api.Final, 1, 1), false}, {resultOf("a", api.Final, api.Final+1, 1, 1), false},
		{resultOf("a", 0, math.MaxInt64, 1, 1), false}, {resultOf("a", 0, 10, 0, 1), false}, {resultOf("a", 0, 10, -1, 1), false},
		{resultOf("a", 0, 10, most+1, 1), false}, {resultOf("a", 0, 10, 1<<32+1, 1), false}, {resultOf("a", 0, 10, math.MinInt64, 1), false},
		{resultOf("a", 0, 10, math.MaxInt64, 1), false},
		{resultOf("a", 0, 0, 0, 0), false}, {resultOf("", 1, 0, 0, 0), false}, {resultOf("", 0, 1, 0, 0), false}, {resultOf("", 0, 0, 1, 0), false}, {resultOf("", 0, 0, 0, 1), false},
	}
}

func judgedMarks() []judged[int64] {
	return []judged[int64]{
		{0, true}, {1, true}, {127, true}, {128, true}, {300, true}, {api.Final - 1, true}, {api.Final, true},
		{-1, false}, {api.Final + 1, false}, {math.MinInt64, false}, {math.MaxInt64, false},
	}
}

func judgedNs() []judged[int] {
	return []judged[int]{
		{0, false}, {1, true}, {2, true}, {127, true}, {128, true}, {1<<30 - 1, true}, {1 << 30, true},
		{-1, false}, {1<<30 + 1, false}, {1<<32 + 1, false}, {math.MinInt, false}, {math.MaxInt, false},
	}
}

func kinds() []int {
	return []int{0, 1, 2, 3, 4, 5, 6, 7, -1, -5, 128, 257, 1<<32 + 1, math.MinInt, math.MaxInt}
}

// validItem is the chapter's word for items, put together from what is known of the parts.
func validItem(kind int, e judged[api.Event], m judged[int64], n judged[int], r judged[api.Result]) bool {
	noEvent, noMark, noN, noResult := e.value == api.Event{}, m.value == 0, n.value == 0, r.value == api.Result{}
	return kind == 1 && e.valid && noMark && noN && noResult ||
		kind == 2 && noEvent && m.valid && noN && noResult ||
		kind == 3 && noEvent && noMark && noN && noResult ||
		kind == 4 && noEvent && noMark && n.valid && noResult ||
		kind == 5 && noEvent && noMark && noN && r.valid
}

// eachItem hands over items of all kinds with all those parts, and whether each is valid.
func eachItem(use func(i api.Item, valid bool)) {
	for _, kind := range kinds() {
		for _, e := range judgedEvents() {
			for _, m := range judgedMarks() {
				for _, n := range judgedNs() {
					for _, r := range judgedResults() {
						use(api.Item{Kind: kind, Event: e.value, Mark: m.value, N: n.value, Result: r.value}, validItem(kind, e, m, n, r))
					}
				}
			}
		}
	}
}

func validItems() []api.Item {
	var l []api.Item
	eachItem(func(i api.Item, valid bool) {
		if valid {
			l = append(l, i)
		}
	})
	return l
}

// byHand are valid items with bytes that were worked out from the chapter by hand.
func byHand() map[string]api.Item {
	return map[string]api.Item{
		"\x01\x01a\x05\x01":                                                   {Kind: 1, Event: eventOf("a", 5, -1)},
		"\x01\x02ab\x00\x00":                                                  {Kind: 1, Event: eventOf("ab", 0, 0)},
		"\x01\x03\x00\x80\xff\x82\x2c\x7f":                                    {Kind: 1, Event: eventOf("\x00\x80\xff", 300, -64)},
		"\x01\x01a\x9f\xff\xff\xff\xff\x7f\x81\x00":                           {Kind: 1, Event: eventOf("a", api.Final-1, 64)},
		"\x01\x01a\x00\x81\xff\xff\xff\xff\xff\xff\xff\xff\x7f":               {Kind: 1, Event: eventOf("a", 0, math.MinInt64)},
		"\x01\x10" + longest + "\x00\x81\xff\xff\xff\xff\xff\xff\xff\xff\x7e": {Kind: 1, Event: eventOf(longest, 0, math.MaxInt64)},
		"\x02\x00":                           {Kind: 2},
		"\x02\x82\x2c":                       {Kind: 2, Mark: 300},
		"\x02\xa0\x80\x80\x80\x80\x00":       {Kind: 2, Mark: api.Final},
		"\x03":                               {Kind: 3},
		"\x04\x01":                           {Kind: 4, N: 1},
		"\x04\x84\x80\x80\x80\x00":           {Kind: 4, N: 1 << 30},
		"\x05\x01a\x00\x0a\x01\x02":          {Kind: 5, Result: resultOf("a", 0, 10, 1, 1)},
		"\x05\x02ab\x81\x00\x82\x2c\x03\x01": {Kind: 5, Result: resultOf("ab", 128, 300, 3, -1)},
		"\x05\x01a\x00\xa0\x80\x80\x80\x80\x00\x84\x80\x80\x80\x00\x00": {Kind: 5, Result: resultOf("a", 0, api.Final, 1<<30, 0)},
	}
}

func TestP4_1Right(t *testing.T) {
	eachItem(func(i api.Item, valid bool) {
		if got := Right(i); got != valid {
			t.Fatalf("Right(%#v) = %v, want %v", i, got, valid)
		}
	})
	for _, i := range byHand() {
		if !Right(i) {
			t.Errorf("Right(%#v) = false, want true", i)
		}
	}
}

func TestP4_1Event(t *testing.T) {
	for _, e := range judgedEvents() {
		if got := Event(e.value); got != e.valid {
			t.Errorf("Event(%#v) = %v, want %v", e.value, got, e.valid)
		}
	}
	for size := range 40 {
		if got, want := Event(eventOf(strings.Repeat("\xff", size), 1, 1)), size >= 1 && size <= 16; got != want {
			t.Errorf("Event with a key of %d bytes = %v, want %v", size, got, want)
		}
	}
}

func TestP4_1Put(t *testing.T) {
	for want, i := range byHand() {
		if got, err := Put(i); got != want || err != api.OK {
			t.Errorf("Put(%#v) = %x, %d, want %x", i, got, err, want)
		}
	}
	for _, i := range validItems() {
		if got, err := Put(i); got != spelt(i) || err != api.OK {
			t.Errorf("Put(%#v) = %x, %d, want %x", i, got, err, spelt(i))
		}
	}
}

func TestP4_1PutNotValid(t *testing.T) {
	eachItem(func(i api.Item, valid bool) {
		if got, err := Put(i); !valid && (got != "" || err != api.ErrArg) {
			t.Fatalf("Put(%#v) = %x, %d, want nothing and ErrArg", i, got, err)
		}
	})
}

func TestP4_2Get(t *testing.T) {
	for s, want := range byHand() {
		if got, err := Get(s); got != want || err != api.OK {
			t.Errorf("Get(%x) = %#v, %d, want %#v", s, got, err, want)
		}
	}
	for _, want := range validItems() {
		if got, err := Get(spelt(want)); got != want || err != api.OK {
			t.Errorf("Get(%x) = %#v, %d, want %#v", spelt(want), got, err, want)
		}
	}
}

func checkErrors(t *testing.T, want api.Errno, inputs ...string) {
	t.Helper()
	for _, s := range inputs {
		if got, err := Get(s); got != (api.Item{}) || err != want {
			t.Errorf("Get(%.20x of %d bytes) = %#v, %d, want error %d", s, len(s), got, err, want)
		}
	}
}

// tooGreat is 2^63, the least number that is none; endless has no last digit that is in bounds.
const (
	tooGreat = "\x81\x80\x80\x80\x80\x80\x80\x80\x80\x00"
	endless  = "\xff\xff\xff\xff\xff\xff\xff\xff\xff\xff\xff\xff"
)

func TestP4_2Kind(t *testing.T) {
	checkErrors(t, api.ErrShort, "", "\x81", "\xff\xff")
	checkErrors(t, api.ErrForm, "\x80", "\x80\x03", "\x80\x01\x01a\x05\x01", tooGreat, endless)
	// Kinds that are one of the five only where bits are cut off.
	checkErrors(t, api.ErrKind, "\x00", "\x06", "\x07", "\x7f", "\x81\x00", "\x82\x03", "\xff\x7f", "\x90\x80\x80\x80\x03", "\xff\xff\xff\xff\xff\xff\xff\xff\x7f")
	// What stands behind such a kind is not looked at.
	for _, behind := range []string{"\x00", "\x80", "\x81", endless, "\x01a\x05\x01", "\x03"} {
		checkErrors(t, api.ErrKind, "\x00"+behind, "\x06"+behind, "\x81\x03"+behind)
	}
}

// fieldFaults puts bytes where a number is due behind head, and checks the errors of vlq; signedOnes may be greater.
func fieldFaults(t *testing.T, head string, signedOnes bool) {
	t.Helper()
	checkErrors(t, api.ErrShort, head, head+"\x81", head+"\xff\xff\xff")
	checkErrors(t, api.ErrForm, head+"\x80", head+"\x80\x00", head+"\x80\x80\x01a\x05\x01", head+endless, head+"\x82\x80\x80\x80\x80\x80\x80\x80\x80\x00")
	if !signedOnes {
		checkErrors(t, api.ErrForm, head+tooGreat, head+"\x81\x80\x80\x80\x80\x80\x80\x80\x80\x80")
	}
}

func keyFaults(t *testing.T, head string) {
	t.Helper()
	long := strings.Repeat("x", 5000)
	fieldFaults(t, head, false)
	checkErrors(t, api.ErrShort, head+"\x01", head+"\x02a", head+"\x10abc", head+"\xa0\x00"+long[:4095])
	checkErrors(t, api.ErrLong, head+"\xa0\x01", head+"\xa0\x01"+long, head+"\xff\xff\xff\xff\xff\xff\xff\xff\x7f", head+"\x90\x80\x80\x80\x01a\x00\x01\x01\x00")
}

func TestP4_2Fields(t *testing.T) {
	keyFaults(t, "\x01")
	keyFaults(t, "\x05")
	for _, head := range []string{"\x01\x01a", "\x02", "\x04", "\x05\x01a", "\x05\x01a\x00", "\x05\x01a\x00\x0a"} {
		fieldFaults(t, head, false)
	}
	for _, head := range []string{"\x01\x01a\x05", "\x05\x01a\x00\x0a\x01"} {
		fieldFaults(t, head, true)
	}
	// A field that is read, but out of its bounds, comes behind the fault of a later field.
	fieldFaults(t, "\x01\x00", false)
	fieldFaults(t, "\x01"+text(tooLong)+digits(api.Final), true)
	fieldFaults(t, "\x05\x00\x0a\x00", false)
	fieldFaults(t, "\x05\x01a\x0a\x00\x00", true)
	// The first of several faults is told.
	checkErrors(t, api.ErrLong, "\x01\xa0\x01"+strings.Repeat("x", 4097)+"\x80")
	checkErrors(t, api.ErrForm, "\x05\x01a\x80\x81")
}

func TestP4_2LeftOver(t *testing.T) {
	for s := range byHand() {
		checkErrors(t, api.ErrForm, s+"\x00", s+"\x80", s+"\x03", s+s, s+strings.Repeat("x", 9000))
	}
	// Left over bytes are told ahead of an item that is not valid.
	checkErrors(t, api.ErrForm, "\x01\x00\x05\x01\x00", "\x01\x01a"+digits(api.Final)+"\x00\x00", "\x02"+digits(api.Final+1)+"\x00", "\x04\x00\x00", "\x05\x01a\x0a\x0a\x01\x00\x00")
}

func TestP4_2NotValid(t *testing.T) {
	checkErrors(t, api.ErrArg, "\x04\x00", "\x04"+digits(1<<30+1), "\x04"+digits(1<<32+1), "\x04"+digits(1<<32), "\x04"+digits(math.MaxInt64))
	checkErrors(t, api.ErrArg, "\x02"+digits(api.Final+1), "\x02"+digits(math.MaxInt64))
	for _, e := range judgedEvents() {
		if !e.valid && e.value.At >= 0 && len(e.value.Key) <= 4096 {
			checkErrors(t, api.ErrArg, eventBytes(e.value))
		}
	}
	for _, r := range judgedResults() {
		if v := r.value; !r.valid && v.Lo >= 0 && v.Hi >= 0 && v.N >= 0 && len(v.Key) <= 4096 {
			checkErrors(t, api.ErrArg, resultBytes(v))
		}
	}
}

// scan is the promise's order of errors, written apart from the package: it goes through the fields by the calls of vlq, and knows a valid item as one that the bytes spell.
func scan(s string) api.Errno {
	kind, at, err := vlq.Get(s, 0)
	fields := map[int64]string{1: "tns", 2: "n", 3: "", 4: "n", 5: "tnnns"}
	if _, known := fields[kind]; err == api.OK && !known {
		return api.ErrKind
	}
	for i := 0; err == api.OK && i < len(fields[kind]); i++ {
		switch fields[kind][i] {
		case 't':
			_, at, err = vlq.GetText(s, at)
		case 'n':
			_, at, err = vlq.Get(s, at)
		case 's':
			_, at, err = vlq.GetSigned(s, at)
		}
	}
	if err == api.OK && at < len(s) {
		return api.ErrForm
	}
	return err
}

// checkWhatever holds for all bytes: what is read is valid and spelt as it stands there, and what is not has the first error that there is.
func checkWhatever(t *testing.T, s string) {
	t.Helper()
	got, err := Get(s)
	want := scan(s)
	switch {
	case want != api.OK && (err != want || got != api.Item{}):
		t.Fatalf("Get(%x) = %#v, %d, want error %d", s, got, err, want)
	case want == api.OK && err == api.OK && (!Right(got) || spelt(got) != s):
		t.Fatalf("Get(%x) = %#v, which is spelt %x", s, got, spelt(got))
	case want == api.OK && err != api.OK && (err != api.ErrArg || got != api.Item{}):
		t.Fatalf("Get(%x) = %#v, %d, want ErrArg or an item", s, got, err)
	}
}

func TestP4_2WhateverBytes(t *testing.T) {
	for a := range 256 {
		checkWhatever(t, string([]byte{byte(a)}))
		for b := range 256 {
			for _, c := range []string{"", "\x00", "\x01", "\x80", "\x81", "a", "a\x05", "a\x05\x01", "a\x00\x0a\x01\x02"} {
				checkWhatever(t, string([]byte{byte(a), byte(b)})+c)
			}
		}
	}
	for s := range byHand() {
		for at := range len(s) {
			checkWhatever(t, s[:at])
			checkWhatever(t, s[at:])
			for b := range 256 {
				one := string([]byte{byte(b)})
				checkWhatever(t, s[:at]+one+s[at+1:])
				checkWhatever(t, s[:at]+one+s[at:])
			}
		}
	}
}

func TestP4_3ReadAgain(t *testing.T) {
	for _, i := range validItems() {
		s, err := Put(i)
		if err != api.OK {
			t.Fatalf("Put(%#v): error %d", i, err)
		}
		if got, err := Get(s); got != i || err != api.OK {
			t.Errorf("%#v is put as %x and read as %#v, %d", i, s, got, err)
		}
		// Nothing that is cut off is an item, so no encoding is the start of another one.
		for at := range len(s) {
			checkErrors(t, api.ErrShort, s[:at])
		}
	}
}

func checkSame(t *testing.T, s string) {
	t.Helper()
	i, err := Get(s)
	if err != api.OK {
		return
	}
	if again, err := Put(i); again != s || err != api.OK {
		t.Fatalf("%x is read as %#v, which is put as %x, %d", s, i, again, err)
	}
}

func TestP4_3PutAgain(t *testing.T) {
	for _, head := range []string{"\x01\x01a", "\x01\x02a", "\x01\x00", "\x02", "\x03", "\x04", "\x05\x01a\x00", "\x05\x01a\x05", "\x80\x02", "\x05\x81\x00", "\x01\x80"} {
		for a := range 256 {
			for b := range 256 {
				for _, tail := range []string{"", "\x00", "\x01\x00", "\x0a\x01\x81\x00"} {
					checkSame(t, head+string([]byte{byte(a), byte(b)})+tail)
				}
			}
		}
	}
	for s := range byHand() {
		if i, err := Get(s); i.Kind == 0 || err != api.OK {
			t.Errorf("Get(%x) = %#v, %d", s, i, err)
		}
		checkSame(t, s)
	}
}
