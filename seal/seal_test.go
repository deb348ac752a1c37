package seal

import (
	"hash/crc32"
	"math"
	"math/bits"
	"slices"
	"strings"
	"testing"

	"clepsydra/api"
)

// sumOf is the chapter's word 'checksum', worked out by another road: the library's sum takes the least significant bit first and turns all bits of the register over at the end.
func sumOf(s string) uint32 {
	turned := []byte(s)
	for i, b := range turned {
		turned[i] = bits.Reverse8(b)
	}
	return bits.Reverse32(^crc32.ChecksumIEEE(turned))
}

// sealed puts the checksum behind bytes, whether they are a frame's or not.
func sealed(s string) string {
	sum := sumOf(s)
	return s + string([]byte{byte(sum >> 24), byte(sum >> 16), byte(sum >> 8), byte(sum)})
}

// framed is the chapter's word 'frame', written apart from the package; no body here has a length of more than two digits.
func framed(body string) string {
	size := []byte{byte(len(body))}
	if len(body) >= 128 {
		size = []byte{byte(128 + len(body)/128), byte(len(body) % 128)}
	}
	return sealed("\xa6" + string(size) + body)
}

// noise has bytes of all values in no plain order, the same ones each time.
func noise(size int) string {
	l := make([]byte, size)
	state := uint32(2463534242)
	for i := range l {
		state ^= state << 13
		state ^= state >> 17
		state ^= state << 5
		l[i] = byte(state >> 11)
	}
	return string(l)
}

// bodies has both sides of each bound of a length that a frame may have, and bodies that look like frames or like parts of them.
func bodies() []string {
	l := []string{"", "a", "abc", "\x00", "\x00\x00\x00\x00", "\xff\xff\xff\xff", "\xa6", "\xa6\x00", "\xa6\xa6\xa6\xa6\xa6", "\u00fc", framed(""), framed("abc"), framed(framed("x"))}
	for _, size := range []int{2, 31, 126, 127, 128, 129, 255, 256, 4095, 4096, 4097, 8190, 8191, 8192} {
		l = append(l, noise(size))
	}
	return append(l, strings.Repeat("\x00", 8192), strings.Repeat("\xa6", 8192), strings.Repeat("\xff", 300))
}

// reading is what Get answers.
type reading struct {
	body string
	next int
	err  api.Errno
}

func get(s string, at int) reading {
	body, next, err := Get(s, at)
	return reading{body, next, err}
}

func TestP3_1Sum(t *testing.T) {
	cases := []struct {
		s    string
		want uint32
	}{
		{"", 0xffffffff}, {"123456789", 0x0376e6e7}, {"\x00", 0x4e08bfb4}, {"\xff", 0xffffff00},
		{"\xff\xff", 0xffff0000}, {"\xff\xff\xff", 0xff000000}, {"\xff\xff\xff\xff", 0}, {"\xff\xff\xff\xff\x00\x00", 0},
		{"\xff\xff\xff\xff\x01", 0x04c11db7}, {"\xff\xff\xff\xff\x02", 0x09823b6e},
		{"\xff\xff\xff\xff\x80", 0x690ce0ee},
	}
	for _, c := range cases {
		if got := Sum(c.s); got != c.want {
			t.Errorf("Sum(%x) = %08x, want %08x", c.s, got, c.want)
		}
	}
}

func TestP3_1SumByAnotherRoad(t *testing.T) {
	check := func(s string) {
		t.Helper()
		if got, want := Sum(s), sumOf(s); got != want {
			t.Errorf("Sum(%.9x) of %d bytes = %08x, want %08x", s, len(s), got, want)
		}
	}
	for a := range 256 {
		check(string([]byte{byte(a)}))
		for b := range 256 {
			check(string([]byte{byte(a), byte(b)}))
		}
	}
	for _, body := range bodies() {
		check(body)
		check(framed(body))
	}
	check(noise(100000))
}

func TestP3_1Put(t *testing.T) {
	cases := []struct{ body, want string }{
		{"", "\xa6\x00\x47\x4e\x35\x65"},
		{"abc", "\xa6\x03abc\xb7\x6f\x7b\xf4"},
		{"123456789", "\xa6\x09123456789\x88\x9e\x83\x51"},
	}
	for _, c := range cases {
		if got, err := Put(c.body); got != c.want || err != api.OK {
			t.Errorf("Put(%q) = %x, %d, want %x", c.body, got, err, c.want)
		}
	}
	for _, body := range bodies() {
		if got, err := Put(body); got != framed(body) || err != api.OK {
			t.Errorf("Put(%.9x) of %d bytes = %.9x of %d bytes, %d", body, len(body), got, len(got), err)
		}
	}
}

func TestP3_1PutTooLong(t *testing.T) {
	// 4097 letters of two bytes each: it is bytes that count.
	for _, body := range []string{noise(8193), noise(8194), noise(16384), noise(100000), strings.Repeat("\u00fc", 4097), strings.Repeat("\x00", 8193)} {
		if got, err := Put(body); got != "" || err != api.ErrLong {
			t.Errorf("Put of %d bytes = %.9x, %d, want nothing and ErrLong", len(body), got, err)
		}
	}
}

func TestP3_2Get(t *testing.T) {
	cases := []struct {
		s    string
		at   int
		want reading
	}{
		{"\xa6\x00\x47\x4e\x35\x65", 0, reading{"", 6, api.OK}},
		{"\xa6\x03abc\xb7\x6f\x7b\xf4", 0, reading{"abc", 9, api.OK}},
		{"x\xa6\x03abc\xb7\x6f\x7b\xf4", 1, reading{"abc", 10, api.OK}},
		{"\xa6\xa6\x00\x47\x4e\x35\x65\xa6", 1, reading{"", 7, api.OK}},
	}
	for _, c := range cases {
		if got := get(c.s, c.at); got != c.want {
			t.Errorf("Get(%x, %d) = %x, %d, %d, want %x, %d", c.s, c.at, got.body, got.next, got.err, c.want.body, c.want.next)
		}
	}
}

func checkErrors(t *testing.T, want api.Errno, at int, inputs ...string) {
	t.Helper()
	for _, s := range inputs {
		if got := get(s, at); got != (reading{err: want}) {
			t.Errorf("Get(%.20x of %d bytes, %d) = %.9x, %d, %d, want error %d", s, len(s), at, got.body, got.next, got.err, want)
		}
	}
}

func TestP3_2Place(t *testing.T) {
	good := framed("abc")
	for _, at := range []int{-1, -2, math.MinInt, math.MinInt + 1, math.MaxInt, math.MaxInt - 1, 100} {
		checkErrors(t, api.ErrArg, at, "", "x", "\xa6", good, good+good)
	}
	checkErrors(t, api.ErrArg, 1, "")
	checkErrors(t, api.ErrArg, 2, "x", "\xa6")
	checkErrors(t, api.ErrArg, 10, good)
	checkErrors(t, api.ErrShort, 0, "")
	checkErrors(t, api.ErrShort, 1, "x", "\xa6")
	checkErrors(t, api.ErrShort, 9, good)
}

func TestP3_2Lead(t *testing.T) {
	good := framed("abc")
	for b := range 256 {
		if b == 0xa6 {
			continue
		}
		// The last one has a checksum that fits, so it is the byte itself that is asked.
		one := string([]byte{byte(b)})
		checkErrors(t, api.ErrForm, 0, one, one+good[1:], sealed(one+good[1:5]))
		checkErrors(t, api.ErrForm, 9, good+one, good+one+good)
	}
	checkErrors(t, api.ErrForm, 1, good, "xx", "\xa6\x00\x47\x4e\x35\x65")
}

func TestP3_2Length(t *testing.T) {
	long := noise(9000)
	checkErrors(t, api.ErrShort, 0, "\xa6", "\xa6\x81", "\xa6\xff\xff", "\xa6\xc0")
	checkErrors(t, api.ErrForm, 0, "\xa6\x80", "\xa6\x80\x00", "\xa6\x80\x03abc"+long, sealed("\xa6\x80\x03abc"), sealed("\xa6\x80\x80\x00"))
	// 2^63, and what comes back to 3 where 64 bits wrap around, are no numbers; 2^63 - 1 is one, but too long, as is all above 8192.
	checkErrors(t, api.ErrForm, 0, "\xa6\x81"+strings.Repeat("\x80", 8)+"\x00"+long, "\xa6\x82"+strings.Repeat("\x80", 8)+"\x03abc"+long, "\xa6"+strings.Repeat("\xff", 10))
	checkErrors(t, api.ErrLong, 0, "\xa6"+strings.Repeat("\xff", 8)+"\x7f"+long, "\xa6"+strings.Repeat("\xff", 8)+"\x7f", "\xa6"+strings.Repeat("\xff", 8)+"\x7c")
	checkErrors(t, api.ErrLong, 0, "\xa6\x90\x80\x80\x80\x00"+long, "\xa6\x90\x80\x80\x80\x03abc", "\xa6\x81\x80\x80\x80\x80\x00")
	checkErrors(t, api.ErrLong, 0, "\xa6\xc0\x01", "\xa6\xc0\x01"+long, sealed("\xa6\xc0\x01"+long[:8193]), "\xa6\xc0\x02", "\xa6\xff\x7f")
	checkErrors(t, api.ErrShort, 0, "\xa6\xc0\x00", "\xa6\xc0\x00"+long[:8195])
	checkErrors(t, api.ErrSum, 0, "\xa6\xc0\x00"+long[:8196], "\xa6\xc0\x00"+long)
}

func TestP3_2TooFewBytes(t *testing.T) {
	checkErrors(t, api.ErrShort, 0, "\xa6\x00", "\xa6\x00abc", "\xa6\x01abcd", "\xa6\x05abcdefgh", "\xa6\x7f"+noise(130))
	// Enough bytes stand ahead of the frame, and none of them counts.
	checkErrors(t, api.ErrShort, 9, framed("abc")+framed("abc")[:8], framed("abc")+"\xa6\x00abc")
}

func TestP3_2Sum(t *testing.T) {
	checkErrors(t, api.ErrSum, 0, "\xa6\x00abcd", "\xa6\x00\x00\x00\x00\x00", "\xa6\x00\xff\xff\xff\xff", "\xa6\x03abc\xb7\x6f\x7b\xf5", "\xa6\x03abc\xb6\x6f\x7b\xf4")
	// Sums that fit other bytes: the body's alone, all but the lead, the least significant byte first, and from offset 0 on.
	checkErrors(t, api.ErrSum, 0, "\xa6\x03"+sealed("abc"), "\xa6"+sealed("\x03abc"), "\xa6\x03abc\xf4\x7b\x6f\xb7", "\xa6\x03abd\xb7\x6f\x7b\xf4")
	checkErrors(t, api.ErrSum, 1, sealed("x\xa6\x03abc"), sealed("\xa6\xa6\x00"))
}

// isFrameAt asks the writer alone: it tries all bodies that could stand there.
func isFrameAt(s string, at int) bool {
	for size := 0; at+2+size <= len(s); size++ {
		if strings.HasPrefix(s[at:], framed(s[at+2:at+2+size])) {
			return true
		}
	}
	return false
}

func TestP3_2WhateverBytes(t *testing.T) {
	heads := []string{"", "\x00", "\x01", "\x02", "\x7f", "\x80", "\x81", "\xa6", "\xc0", "\xff"}
	tails := []string{"", "\xa6", framed("")[2:], framed("\x00")[2:], framed("\xa6\x00")[2:], "abcd", framed("abc"), noise(140)}
	for _, a := range heads {
		for _, b := range heads {
			for _, c := range heads {
				for _, tail := range tails {
					s := "\xa6" + a + b + c + tail
					for at := -1; at <= len(s)+1 && at < 9; at++ {
						got := get(s, at)
						right := at >= 0 && at <= len(s) && isFrameAt(s, at)
						if (got.err == api.OK) != right || got.err == api.OK && s[at:got.next] != framed(got.body) || got.err != api.OK && got != (reading{err: got.err}) {
							t.Fatalf("Get(%x, %d) = %x, %d, %d, a frame there: %v", s, at, got.body, got.next, got.err, right)
						}
					}
				}
			}
		}
	}
}

// walk is what All answers.
type walk struct {
	bodies []string
	at     int
	err    api.Errno
}

func checkAll(t *testing.T, s string, want walk) {
	t.Helper()
	got, at, err := All(s)
	if !slices.Equal(got, want.bodies) || at != want.at || err != want.err {
		t.Errorf("All(%.40x of %d bytes) = %d bodies, %d, %d, want %d, %d, %d", s, len(s), len(got), at, err, len(want.bodies), want.at, want.err)
	}
}

func TestP3_3All(t *testing.T) {
	none, abc := "\xa6\x00\x47\x4e\x35\x65", "\xa6\x03abc\xb7\x6f\x7b\xf4"
	checkAll(t, "", walk{nil, 0, api.OK})
	checkAll(t, none, walk{[]string{""}, 6, api.OK})
	checkAll(t, abc, walk{[]string{"abc"}, 9, api.OK})
	checkAll(t, none+none+abc+none, walk{[]string{"", "", "abc", ""}, 27, api.OK})
	// A frame within a body is a part of that body.
	checkAll(t, framed(abc)+none, walk{[]string{abc, ""}, 21, api.OK})
	checkAll(t, strings.Repeat(abc, 5000), walk{slices.Repeat([]string{"abc"}, 5000), 45000, api.OK})
}

func TestP3_3Errors(t *testing.T) {
	none, abc := "\xa6\x00\x47\x4e\x35\x65", "\xa6\x03abc\xb7\x6f\x7b\xf4"
	faults := []struct {
		s    string
		want api.Errno
	}{
		{"x", api.ErrForm}, {"\xa6", api.ErrShort}, {"\xa6\x80", api.ErrForm}, {"\xa6\x81", api.ErrShort}, {"\xa6\xc0\x01", api.ErrLong},
		{"\xa6\x00abc", api.ErrShort}, {"\xa6\x00abcd", api.ErrSum}, {abc[:8], api.ErrShort}, {"\x00", api.ErrForm}, {"x" + abc, api.ErrForm},
		{"\xa6\x03abd\xb7\x6f\x7b\xf4", api.ErrSum},
	}
	for _, f := range faults {
		checkAll(t, f.s, walk{nil, 0, f.want})
		checkAll(t, abc+f.s, walk{[]string{"abc"}, 9, f.want})
		checkAll(t, abc+none+f.s, walk{[]string{"abc", ""}, 15, f.want})
	}
	// What is sound behind a fault is not reached.
	checkAll(t, abc+"x"+abc, walk{[]string{"abc"}, 9, api.ErrForm})
	checkAll(t, abc+"\xa6\x00abcd"+abc, walk{[]string{"abc"}, 9, api.ErrSum})
}

func TestP3_4FramesReadAgain(t *testing.T) {
	var all strings.Builder
	for _, body := range bodies() {
		frame, err := Put(body)
		if err != api.OK {
			t.Fatalf("Put of %d bytes: error %d", len(body), err)
		}
		for _, before := range []string{"", "\x00", "\xa6", "\xa6\x00", framed("abc")} {
			for _, after := range []string{"", "\x00", "\xa6", "\xff\xff\xff\xff\xff", framed("")} {
				if got := get(before+frame+after, len(before)); got != (reading{body, len(before + frame), api.OK}) {
					t.Errorf("a frame of %d bytes between %x and %x is read as %.9x, %d, %d", len(body), before, after, got.body, got.next, got.err)
				}
			}
		}
		all.WriteString(frame)
	}
	checkAll(t, all.String(), walk{bodies(), all.Len(), api.OK})
}

func TestP3_4ReadIsFramedTheSame(t *testing.T) {
	frames := framed("") + framed("abc") + framed("") + framed(noise(128)) + framed("\xa6\x00") + framed(noise(127))
	inputs := []string{frames + "x", frames + frames, frames + "\xa6\x80\x00" + frames, sealed("\xa6\x80\x03abc"), framed("abc") + sealed("\xa6\x80\x03abc")}
	for at := range len(frames) {
		inputs = append(inputs, frames[:at], frames[at:], frames[:at]+"\xa6"+frames[at:], frames[:at]+"x"+frames[at+1:])
	}
	for _, s := range inputs {
		read, at, _ := All(s)
		again := ""
		for _, body := range read {
			frame, _ := Put(body)
			again += frame
		}
		if again != s[:at] {
			t.Errorf("the bodies of %.20x of %d bytes give %.20x, but they end at %d", s, len(s), again, at)
		}
	}
}

// changed turns the bits of a frame over that a pattern has, its most significant one at bit number from of the frame.
func changed(frame string, from int, pattern uint32) string {
	l := []byte(frame)
	for i := range 32 {
		if pattern>>(31-i)&1 == 1 {
			l[(from+i)/8] ^= 1 << (7 - (from+i)%8)
		}
	}
	return string(l)
}

// patterns has all changes of one or two bits, all within eight, the whole run, and many others.
func patterns() []uint32 {
	l := []uint32{0xffffffff, 0xfffffffe, 0x7fffffff, 0x04c11db7, 0x04c11db7<<5 | 1, 0x82608edb, 0xedb88320}
	for i := range 32 {
		for j := range i + 1 {
			l = append(l, 1<<i|1<<j)
		}
	}
	for i := range 255 {
		l = append(l, uint32(i+1)<<24)
	}
	drawn := noise(4 * 300)
	for i := 0; i < len(drawn); i += 4 {
		l = append(l, uint32(drawn[i])<<24|uint32(drawn[i+1])<<16|uint32(drawn[i+2])<<8|uint32(drawn[i+3])|1)
	}
	return l
}

func TestP3_5ChangedBits(t *testing.T) {
	for _, body := range []string{"", "a", "abc", "\x00\x00\x00\x00\x00\x00", framed("x"), noise(140)} {
		frame := framed(body)
		head := len(frame) - len(body) - 4
		for from := 8 * head; from+32 <= 8*len(frame); from++ {
			for _, pattern := range patterns() {
				if got := get(changed(frame, from, pattern), 0); got != (reading{err: api.ErrSum}) {
					t.Fatalf("a body of %d bytes, changed by %08x from bit %d on: %x, %d, %d", len(body), pattern, from, got.body, got.next, got.err)
				}
			}
		}
	}
}

func TestP3_5ChangedBitsOfALongBody(t *testing.T) {
	frame := framed(noise(8192))
	for from := 24; from+32 <= 8*len(frame); from += 331 {
		for _, pattern := range []uint32{1 << 31, 0xffffffff, 0x80000001, 0x82608edb} {
			checkErrors(t, api.ErrSum, 0, changed(frame, from, pattern))
		}
	}
	checkErrors(t, api.ErrSum, 0, changed(frame, 8*len(frame)-32, 1))
}

func TestP3_5CutOff(t *testing.T) {
	for _, body := range bodies() {
		frame := framed(body)
		for size := range len(frame) {
			if size > 300 && size < len(frame)-300 && size%97 > 0 {
				continue
			}
			checkErrors(t, api.ErrShort, 0, frame[:size])
			checkErrors(t, api.ErrShort, 2, "\xa6\x00"+frame[:size])
		}
	}
}
