package vlq

import (
	"math"
	"math/big"
	"strings"
	"testing"

	"clepsydra/api"
)

// numbers has both sides of each number of digits, the ends, and some between.
func numbers() []uint64 {
	l := []uint64{0, 1, 2, 3, 63, 64, 65, 300, 4095, 4096, 4097, 1 << 40, 1<<40 + 1, math.MaxInt64 - 1, math.MaxInt64, math.MaxInt64 + 1, math.MaxUint64 - 1, math.MaxUint64}
	for shift := 7; shift < 64; shift += 7 {
		power := uint64(1) << shift
		l = append(l, power-1, power, power+1, power/3, power/5*7)
	}
	return l
}

// spelt is the chapter's word 'encoding of a number', written apart from the package.
func spelt(n uint64) string {
	v, base := new(big.Int).SetUint64(n), big.NewInt(128)
	var low []byte
	for first := true; first || v.Sign() > 0; first = false {
		digit := new(big.Int)
		v.DivMod(v, base, digit)
		low = append(low, byte(digit.Int64()))
	}
	var out []byte
	for i := len(low) - 1; i > 0; i-- {
		out = append(out, low[i]+128)
	}
	return string(append(out, low[0]))
}

// doubled is the chapter's word 'signed number', written apart from the package.
func doubled(n int64) uint64 {
	v := new(big.Int).Mul(big.NewInt(n), big.NewInt(2))
	if n < 0 {
		v.Sub(v.Neg(v), big.NewInt(1))
	}
	return v.Uint64()
}

// signed has the signed number behind each of numbers.
func signed() []int64 {
	l := []int64{math.MinInt64, math.MinInt64 + 1, math.MaxInt64 - 1, math.MaxInt64}
	for _, n := range numbers() {
		l = append(l, int64(n/2), -int64(n/2), -int64(n/2)-1)
	}
	return l
}

func TestP2_1Put(t *testing.T) {
	cases := []struct {
		n    int64
		want string
	}{
		{0, "\x00"}, {1, "\x01"}, {127, "\x7f"}, {128, "\x81\x00"}, {129, "\x81\x01"}, {255, "\x81\x7f"}, {256, "\x82\x00"}, {300, "\x82\x2c"},
		{16383, "\xff\x7f"}, {16384, "\x81\x80\x00"}, {2097151, "\xff\xff\x7f"}, {2097152, "\x81\x80\x80\x00"},
		{api.Final, "\xa0\x80\x80\x80\x80\x00"},
		{math.MaxInt64 - 1, "\xff\xff\xff\xff\xff\xff\xff\xff\x7e"},
		{math.MaxInt64, "\xff\xff\xff\xff\xff\xff\xff\xff\x7f"},
	}
	for _, c := range cases {
		if got, err := Put(c.n); got != c.want || err != api.OK {
			t.Errorf("Put(%d) = %x, %d, want %x", c.n, got, err, c.want)
		}
	}
	for _, n := range numbers() {
		if n > math.MaxInt64 {
			continue
		}
		if got, err := Put(int64(n)); got != spelt(n) || err != api.OK {
			t.Errorf("Put(%d) = %x, %d, want %x", n, got, err, spelt(n))
		}
	}
}

func TestP2_1PutNegative(t *testing.T) {
	for _, n := range []int64{-1, -2, -127, -128, -300, math.MinInt64 + 1, math.MinInt64} {
		if got, err := Put(n); got != "" || err != api.ErrArg {
			t.Errorf("Put(%d) = %x, %d, want nothing and ErrArg", n, got, err)
		}
	}
}

func TestP2_1Signed(t *testing.T) {
	cases := []struct {
		n    int64
		want string
	}{
		{0, "\x00"}, {-1, "\x01"}, {1, "\x02"}, {-2, "\x03"}, {63, "\x7e"}, {-64, "\x7f"}, {64, "\x81\x00"}, {-65, "\x81\x01"},
		{math.MaxInt64, "\x81\xff\xff\xff\xff\xff\xff\xff\xff\x7e"},
		{math.MinInt64, "\x81\xff\xff\xff\xff\xff\xff\xff\xff\x7f"},
	}
	for _, c := range cases {
		if got := Signed(c.n); got != c.want {
			t.Errorf("Signed(%d) = %x, want %x", c.n, got, c.want)
		}
	}
	for _, n := range signed() {
		if got, want := Signed(n), spelt(doubled(n)); got != want {
			t.Errorf("Signed(%d) = %x, want %x", n, got, want)
		}
	}
}

func TestP2_1Text(t *testing.T) {
	cases := []struct{ s, want string }{
		{"", "\x00"}, {"a", "\x01a"}, {"\x00", "\x01\x00"}, {"\xff\x80", "\x02\xff\x80"}, {"\u00fc", "\x02\xc3\xbc"},
		{strings.Repeat("x", 127), "\x7f" + strings.Repeat("x", 127)},
		{strings.Repeat("x", 128), "\x81\x00" + strings.Repeat("x", 128)},
		{strings.Repeat("x", 4095), "\x9f\x7f" + strings.Repeat("x", 4095)},
		{strings.Repeat("x", 4096), "\xa0\x00" + strings.Repeat("x", 4096)},
	}
	for _, c := range cases {
		if got, err := Text(c.s); got != c.want || err != api.OK {
			t.Errorf("Text(%.9q) of %d bytes = %.9q, %d, want %.9q", c.s, len(c.s), got, err, c.want)
		}
	}
	// 2049 letters of two bytes each: it is bytes that count.
	for _, s := range []string{strings.Repeat("x", 4097), strings.Repeat("x", 9000), strings.Repeat("\u00fc", 2049)} {
		if got, err := Text(s); got != "" || err != api.ErrLong {
			t.Errorf("Text of %d bytes = %.9q, %d, want nothing and ErrLong", len(s), got, err)
		}
	}
}

// reading is what a call for a number answers; both calls are asked for the same bytes.
type reading struct {
	n    int64
	next int
	err  api.Errno
}

func get(s string, at int) reading {
	n, next, err := Get(s, at)
	return reading{n, next, err}
}

func getSigned(s string, at int) reading {
	n, next, err := GetSigned(s, at)
	return reading{n, next, err}
}

func TestP2_2GetAndGetSigned(t *testing.T) {
	cases := []struct {
		s            string
		at           int
		want, signed int64
		next         int
	}{
		{"\x00", 0, 0, 0, 1}, {"\x01", 0, 1, -1, 1}, {"\x02", 0, 2, 1, 1}, {"\x7f", 0, 127, -64, 1},
		{"\x81\x00", 0, 128, 64, 2}, {"\x81\x01", 0, 129, -65, 2}, {"\x82\x2c", 0, 300, 150, 2},
		{"\x81\x80\x00", 0, 16384, 8192, 3}, {"\xff\xff\x7f", 0, 2097151, -1048576, 3},
		{"\x80\x80\x05\x06", 2, 5, -3, 3}, {"\x05\x82\x2c\x80", 1, 300, 150, 3}, {"\x82\x2c", 1, 44, 22, 2},
		{"\x00\x00", 0, 0, 0, 1}, {"\x05\x81", 0, 5, -3, 1},
		{"\xff\xff\xff\xff\xff\xff\xff\xff\x7f", 0, math.MaxInt64, -1 << 62, 9},
	}
	for _, c := range cases {
		if got := get(c.s, c.at); got != (reading{c.want, c.next, api.OK}) {
			t.Errorf("Get(%x, %d) = %v, want %d, %d", c.s, c.at, got, c.want, c.next)
		}
		if got := getSigned(c.s, c.at); got != (reading{c.signed, c.next, api.OK}) {
			t.Errorf("GetSigned(%x, %d) = %v, want %d, %d", c.s, c.at, got, c.signed, c.next)
		}
	}
}

func TestP2_2Errors(t *testing.T) {
	full := strings.Repeat("\xff", 8)
	cases := []struct {
		s           string
		at          int
		err, signed api.Errno
	}{
		{"", -1, api.ErrArg, api.ErrArg}, {"", 1, api.ErrArg, api.ErrArg}, {"\x05", 2, api.ErrArg, api.ErrArg}, {"\x05", -1, api.ErrArg, api.ErrArg},
		{"\x80", 2, api.ErrArg, api.ErrArg}, {"\x05", math.MaxInt, api.ErrArg, api.ErrArg}, {"\x05", math.MinInt, api.ErrArg, api.ErrArg},
		{"", 0, api.ErrShort, api.ErrShort}, {"\x05", 1, api.ErrShort, api.ErrShort}, {"\x81", 0, api.ErrShort, api.ErrShort},
		{"\x81\x80", 0, api.ErrShort, api.ErrShort}, {"\xff\xff", 1, api.ErrShort, api.ErrShort}, {full, 0, api.ErrShort, api.ErrShort},
		{full + "\xff", 0, api.ErrShort, api.ErrShort},
		{"\x80", 0, api.ErrForm, api.ErrForm}, {"\x80\x00", 0, api.ErrForm, api.ErrForm}, {"\x80\x05", 0, api.ErrForm, api.ErrForm},
		{"\x05\x80\x05", 1, api.ErrForm, api.ErrForm}, {"\x80\x80", 0, api.ErrForm, api.ErrForm},
		// 2^63 - 1 with one more digit that goes on, then 2^63, and 2^64 - 1: too much for Get alone.
		{full + "\xff\x80", 0, api.ErrForm, api.ErrForm},
		{"\x81\x80\x80\x80\x80\x80\x80\x80\x80\x00", 0, api.ErrForm, api.OK},
		{"\x81\x80\x80\x80\x80\x80\x80\x80\x80\x80", 0, api.ErrForm, api.ErrShort},
		{"\x81" + full + "\x7f", 0, api.ErrForm, api.OK}, {"\x81" + full + "\xff", 0, api.ErrForm, api.ErrShort},
		{"\x81" + full + "\xff\x00", 0, api.ErrForm, api.ErrForm},
		// 2^64, and what comes back to a small number where 64 bits wrap around.
		{"\x82\x80\x80\x80\x80\x80\x80\x80\x80\x00", 0, api.ErrForm, api.ErrForm},
		{"\x82\x80\x80\x80\x80\x80\x80\x80\x80\x05", 0, api.ErrForm, api.ErrForm},
		{"\x84\x80\x80\x80\x80\x80\x80\x80\x80\x05", 0, api.ErrForm, api.ErrForm},
		{"\xff" + full + "\x7f", 0, api.ErrForm, api.ErrForm}, {strings.Repeat("\xff", 99), 0, api.ErrForm, api.ErrForm},
		{"\x81\x80\x80\x80\x80\x80\x80\x80\x80\x80\x00", 0, api.ErrForm, api.ErrForm},
	}
	for _, c := range cases {
		if got := get(c.s, c.at); got != (reading{err: c.err}) {
			t.Errorf("Get(%x, %d) = %v, want error %d", c.s, c.at, got, c.err)
		}
		if got := getSigned(c.s, c.at); got.err != c.signed || got.err != api.OK && got != (reading{err: c.signed}) {
			t.Errorf("GetSigned(%x, %d) = %v, want error %d", c.s, c.at, got, c.signed)
		}
	}
}

// asRead is the promise's order of errors, written apart from the package in numbers that have no end.
func asRead(s string, at int, bits uint) (*big.Int, int, api.Errno) {
	if at < 0 || at > len(s) {
		return new(big.Int), 0, api.ErrArg
	}
	most := new(big.Int).Sub(new(big.Int).Lsh(big.NewInt(1), bits), big.NewInt(1))
	n := new(big.Int)
	for i := at; i < len(s); i++ {
		n.Add(n.Lsh(n, 7), big.NewInt(int64(s[i]&127)))
		switch {
		case i == at && s[i] == 128 || n.Cmp(most) > 0:
			return new(big.Int), 0, api.ErrForm
		case s[i] < 128:
			return n, i + 1, api.OK
		}
	}
	return new(big.Int), 0, api.ErrShort
}

func checkRead(t *testing.T, s string, at int) {
	t.Helper()
	want, next, err := asRead(s, at, 63)
	if got := get(s, at); got != (reading{want.Int64(), next, err}) {
		t.Errorf("Get(%x, %d) = %v, want %v, %d, %d", s, at, got, want, next, err)
	}
	want, next, err = asRead(s, at, 64)
	got := getSigned(s, at)
	if got.next != next || got.err != err || err == api.OK && doubled(got.n) != want.Uint64() || err != api.OK && got.n != 0 {
		t.Errorf("GetSigned(%x, %d) = %v, want that of %v, %d, %d", s, at, got, want, next, err)
	}
}

func TestP2_2AllShortBytes(t *testing.T) {
	for a := range 256 {
		checkRead(t, string([]byte{byte(a)}), 0)
		for b := range 256 {
			s := string([]byte{byte(a), byte(b)})
			for at := -1; at <= 3; at++ {
				checkRead(t, s, at)
			}
		}
	}
}

func TestP2_2AroundTheBounds(t *testing.T) {
	edges := []byte{0x80, 0x81, 0x82, 0xbf, 0xc0, 0xfe, 0xff}
	lasts := []byte{0x00, 0x01, 0x7e, 0x7f, 0x80, 0xff}
	for _, first := range edges {
		for _, second := range edges {
			for _, middle := range edges {
				for _, last := range lasts {
					for size := range 10 {
						s := string([]byte{first, second}) + strings.Repeat(string([]byte{middle}), size) + string([]byte{last})
						checkRead(t, s, 0)
						checkRead(t, "\xff"+s+"\x00", 1)
					}
				}
			}
		}
	}
}

func TestP2_3GetText(t *testing.T) {
	long := strings.Repeat("x", 4096)
	cases := []struct {
		s    string
		at   int
		want string
		next int
	}{
		{"\x00", 0, "", 1}, {"\x00abc", 0, "", 1}, {"\x01a", 0, "a", 2}, {"\x02\x80\x00z", 0, "\x80\x00", 3},
		{"\x01a\x02bc", 2, "bc", 5}, {"\x82\x2c\x01a", 2, "a", 4}, {"\x01a\x00", 2, "", 3},
		{"\x81\x00" + long, 0, long[:128], 130}, {"\xa0\x00" + long, 0, long, 4098}, {"\x9f\x7f" + long, 0, long[:4095], 4097},
	}
	for _, c := range cases {
		if got, next, err := GetText(c.s, c.at); got != c.want || next != c.next || err != api.OK {
			t.Errorf("GetText(%.9q, %d) = %.9q, %d, %d, want %.9q, %d", c.s, c.at, got, next, err, c.want, c.next)
		}
	}
}

func TestP2_3Errors(t *testing.T) {
	long := strings.Repeat("x", 9000)
	cases := []struct {
		s    string
		at   int
		want api.Errno
	}{
		{"", -1, api.ErrArg}, {"\x00", 2, api.ErrArg}, {"\x00", math.MaxInt, api.ErrArg}, {"\x00", math.MinInt, api.ErrArg},
		{"\x80\x01a", 0, api.ErrForm}, {"\x80", 0, api.ErrForm}, {"\x81\x80\x80\x80\x80\x80\x80\x80\x80\x00" + long, 0, api.ErrForm},
		{"", 0, api.ErrShort}, {"\x00", 1, api.ErrShort}, {"\x81", 0, api.ErrShort}, {"\xa0", 0, api.ErrShort},
		{"\x01", 0, api.ErrShort}, {"\x02a", 0, api.ErrShort}, {"abc\x01", 3, api.ErrShort}, {"\x81\x00" + long[:127], 0, api.ErrShort},
		{"\xa0\x00" + long[:4095], 0, api.ErrShort}, {"\xa0\x00", 0, api.ErrShort},
		// 4097 is too long whether the bytes are there or not, and so is the greatest length.
		{"\xa0\x01" + long, 0, api.ErrLong}, {"\xa0\x01", 0, api.ErrLong}, {"\xa0\x01" + long[:4096], 0, api.ErrLong},
		{strings.Repeat("\xff", 8) + "\x7f", 0, api.ErrLong}, {"a\x90\x80\x80\x80\x00" + long, 1, api.ErrLong},
	}
	for _, c := range cases {
		if got, next, err := GetText(c.s, c.at); got != "" || next != 0 || err != c.want {
			t.Errorf("GetText(%.9q, %d) = %.9q, %d, %d, want error %d", c.s, c.at, got, next, err, c.want)
		}
	}
}

// around has bytes to stand ahead of and behind an encoding, such as would change it if they were taken for a part of it.
func around() []string {
	return []string{"", "\x00", "\x7f", "\x80", "\x81", "\xff", "\xff\xff\xff", "abc", "\x80\x80\x80\x80\x80\x80\x80\x80\x80\x80\x80"}
}

func TestP2_4NumbersReadAgain(t *testing.T) {
	for _, before := range around() {
		for _, after := range around() {
			for _, n := range numbers() {
				s, err := Put(int64(n))
				if err != api.OK {
					continue
				}
				if got := get(before+s+after, len(before)); got != (reading{int64(n), len(before + s), api.OK}) {
					t.Errorf("%d between %x and %x is read as %v", n, before, after, got)
				}
			}
			for _, n := range signed() {
				s := Signed(n)
				if got := getSigned(before+s+after, len(before)); got != (reading{n, len(before + s), api.OK}) {
					t.Errorf("the signed %d between %x and %x is read as %v", n, before, after, got)
				}
			}
		}
	}
}

func TestP2_4TextsReadAgain(t *testing.T) {
	long := strings.Repeat("\x80\x00\xff", 1366)
	for _, before := range around() {
		for _, after := range around() {
			for _, text := range append(around(), long[:127], long[:128], long[:129], long[:4095], long[:4096]) {
				s, _ := Text(text)
				if got, next, err := GetText(before+s+after, len(before)); got != text || next != len(before+s) || err != api.OK {
					t.Errorf("a text of %d bytes between %x and %x is read as %.9q, %d, %d", len(text), before, after, got, next, err)
				}
			}
		}
	}
}

func checkSame(t *testing.T, s string) {
	t.Helper()
	if n, next, err := Get(s, 0); err == api.OK {
		if again, _ := Put(n); again != s[:next] {
			t.Errorf("%x is read as %d, which is %x", s[:next], n, again)
		}
	}
	if n, next, err := GetSigned(s, 0); err == api.OK {
		if again := Signed(n); again != s[:next] {
			t.Errorf("%x is read as the signed %d, which is %x", s[:next], n, again)
		}
	}
	if text, next, err := GetText(s, 0); err == api.OK {
		if again, _ := Text(text); again != s[:next] {
			t.Errorf("%x is read as the text %x, which is %x", s[:next], text, again)
		}
	}
}

func TestP2_4ReadIsEncodedTheSame(t *testing.T) {
	for a := range 256 {
		for b := range 256 {
			for _, c := range []byte{0x00, 0x01, 0x40, 0x7f, 0x80, 0x81, 0xff} {
				checkSame(t, string([]byte{byte(a), byte(b), c}))
			}
		}
	}
	for _, n := range numbers() {
		checkSame(t, spelt(n)+"\x00")
		checkSame(t, "\x80"+spelt(n))
	}
}

func TestP2_4GreaterNumbersAreGreaterBytes(t *testing.T) {
	grows := func(low, high string) bool {
		return len(low) < len(high) || len(low) == len(high) && low < high
	}
	for _, a := range numbers() {
		for _, b := range numbers() {
			if a >= b || b > math.MaxInt64 {
				continue
			}
			low, _ := Put(int64(a))
			high, _ := Put(int64(b))
			if !grows(low, high) {
				t.Errorf("%d is %x, and %d is %x", a, low, b, high)
			}
		}
	}
	last, _ := Put(0)
	for n := int64(1); n < 40000; n++ {
		next, _ := Put(n)
		if !grows(last, next) {
			t.Errorf("%d is %x, and the number before it is %x", n, next, last)
		}
		last = next
	}
}
