package octet

import (
	"bytes"
	"math"
	"strconv"
	"strings"
	"testing"
)

// rows are lists of different lengths, with bytes that differ by place; some have room behind their end.
func rows() [][]byte {
	long := make([]byte, 0, 40)
	for i := range 20 {
		long = append(long, byte(200+11*i))
	}
	return [][]byte{nil, {}, {7}, {1, 2, 3}, long[:8], long[:9], long}
}

// places are places and sizes within rows, at their ends, beyond them, and where a sum of two wraps round.
func places() []int {
	out := []int{math.MinInt, math.MinInt + 1, math.MaxInt - 1, math.MaxInt, 1 << 62}
	for i := -3; i < 25; i++ {
		out = append(out, i)
	}
	return out
}

// there tells by steps that can't wrap round whether b has size bytes from at on.
func there(b []byte, at, size int) bool {
	if at < 0 || size < 0 || at > len(b) {
		return false
	}
	return size <= len(b[at:])
}

// P1.1: Cut.
func TestCut(t *testing.T) {
	for _, b := range rows() {
		for _, at := range places() {
			for _, size := range places() {
				got, is := Cut(b, at, size)
				if is != there(b, at, size) {
					t.Fatalf("Cut(%v, %d, %d): %v", b, at, size, is)
				}
				if !is && len(got) != 0 {
					t.Fatalf("Cut(%v, %d, %d): false with %v", b, at, size, got)
				}
				if is && !bytes.Equal(got, b[at:at+size]) {
					t.Fatalf("Cut(%v, %d, %d): %v", b, at, size, got)
				}
			}
		}
	}
}

// P1.1: Cut by values that are written out.
func TestCutEdges(t *testing.T) {
	b := []byte{1, 2, 3}
	for _, c := range []struct {
		at, size int
		want     string
		is       bool
	}{
		{0, 3, "010203", true}, {1, 2, "0203", true}, {2, 1, "03", true}, {0, 0, "", true}, {3, 0, "", true},
		{4, 0, "", false}, {3, 1, "", false}, {2, 2, "", false}, {0, 4, "", false}, {-1, 1, "", false}, {-1, 0, "", false},
		{0, -1, "", false}, {3, -1, "", false}, {-1, -1, "", false}, {math.MaxInt, math.MaxInt, "", false},
		{1, math.MaxInt, "", false}, {math.MaxInt, 1, "", false}, {math.MinInt, math.MinInt, "", false},
	} {
		if got, is := Cut(b, c.at, c.size); is != c.is || Hex(got) != c.want {
			t.Errorf("Cut(%d, %d): %v %v", c.at, c.size, got, is)
		}
	}
}

// P1.1: the size may be greater than 8 in Cut alone.
func TestCutLong(t *testing.T) {
	b := make([]byte, 70000)
	b[69999] = 5
	got, is := Cut(b, 1, 69999)
	if !is || len(got) != 69999 || got[69998] != 5 {
		t.Error(len(got), is)
	}
}

// P1.1: Get by values that are written out.
func TestGet(t *testing.T) {
	b := []byte{1, 2, 3, 4, 5, 6, 7, 8, 255, 0}
	for _, c := range []struct {
		at, size int
		want     uint64
		is       bool
	}{
		{0, 1, 1, true}, {1, 2, 515, true}, {0, 3, 0x010203, true}, {2, 4, 0x03040506, true}, {0, 5, 0x0102030405, true},
		{0, 6, 0x010203040506, true}, {0, 7, 0x01020304050607, true}, {0, 8, 0x0102030405060708, true},
		{1, 8, 0x02030405060708ff, true}, {2, 8, 0x030405060708ff00, true}, {8, 1, 255, true}, {9, 1, 0, true}, {8, 2, 0xff00, true},
		{3, 8, 0, false}, {10, 1, 0, false}, {9, 2, 0, false}, {11, 1, 0, false}, {0, 0, 0, false}, {10, 0, 0, false},
		{0, 9, 0, false}, {0, 10, 0, false}, {0, -1, 0, false}, {-1, 1, 0, false}, {-1, 2, 0, false},
		{math.MaxInt, 8, 0, false}, {math.MinInt, 8, 0, false}, {0, math.MaxInt, 0, false}, {0, math.MinInt, 0, false},
	} {
		if got, is := Get(b, c.at, c.size); got != c.want || is != c.is {
			t.Errorf("Get(%d, %d): %d %v", c.at, c.size, got, is)
		}
	}
	if n, is := Get(bytes.Repeat([]byte{255}, 8), 0, 8); n != math.MaxUint64 || !is {
		t.Error(n, is)
	}
	if n, is := Get(nil, 0, 1); n != 0 || is {
		t.Error(n, is)
	}
}

// P1.1: Put by values that are written out.
func TestPut(t *testing.T) {
	b := []byte{1, 2, 3, 4, 5, 6, 7, 8, 9}
	for _, c := range []struct {
		at, size int
		n        uint64
		want     string
		is       bool
	}{
		{0, 1, 255, "ff0203040506070809", true}, {8, 1, 0, "010203040506070800", true}, {7, 2, 0x1234, "01020304050607" + "1234", true},
		{1, 3, 5, "01" + "000005" + "0506070809", true}, {0, 8, math.MaxUint64, "ffffffffffffffff09", true},
		{1, 8, 0, "010000000000000000", true}, {1, 8, 0x1122334455667788, "011122334455667788", true},
		{0, 1, 256, "", false}, {0, 0, 0, "", false}, {9, 0, 0, "", false}, {0, 9, 0, "", false}, {0, -1, 0, "", false},
		{-1, 1, 0, "", false}, {9, 1, 0, "", false}, {8, 2, 0, "", false}, {2, 8, 0, "", false}, {10, 1, 0, "", false},
		{math.MaxInt, 1, 0, "", false}, {math.MaxInt, 8, 0, "", false}, {math.MinInt, 8, 0, "", false},
		{0, math.MaxInt, 0, "", false}, {0, math.MinInt, 0, "", false}, {math.MaxInt, math.MaxInt, math.MaxUint64, "", false},
	} {
		if got, is := Put(b, c.at, c.size, c.n); is != c.is || Hex(got) != c.want {
			t.Errorf("Put(%d, %d, %d): %v %v", c.at, c.size, c.n, got, is)
		}
	}
	if got, is := Put(nil, 0, 1, 0); is || len(got) != 0 {
		t.Error(got, is)
	}
}

// P1.1: a number is put just if it is below 256 to the size.
func TestPutGreatest(t *testing.T) {
	b := make([]byte, 10)
	for size := 1; size <= 7; size++ {
		above := uint64(1) << (8 * size)
		for _, n := range []uint64{0, 1, above/2 + 1, above - 1, above, above + 1, math.MaxUint64} {
			got, is := Put(b, 1, size, n)
			if is != (n < above) || !is && len(got) != 0 {
				t.Errorf("Put of %d into %d bytes: %v %v", n, size, got, is)
			}
		}
	}
}

// P1.4: what is put is got, and the other bytes stay; what can't be put can't be got.
func TestPutIsGot(t *testing.T) {
	for _, b := range rows() {
		for _, at := range places() {
			for _, size := range places() {
				checkPut(t, b, at, size)
			}
		}
	}
}

func checkPut(t *testing.T, b []byte, at, size int) {
	t.Helper()
	fits := size >= 1 && size <= 8 && there(b, at, size)
	if n, is := Get(b, at, size); is != fits || !is && n != 0 {
		t.Fatalf("Get(%v, %d, %d): %d %v", b, at, size, n, is)
	}
	n := uint64(0xfedcba9876543210)
	if size >= 1 && size < 8 {
		n %= 1 << (8 * size)
	}
	got, is := Put(b, at, size, n)
	if is != fits || !is && len(got) != 0 {
		t.Fatalf("Put(%v, %d, %d): %v %v", b, at, size, got, is)
	}
	if !is {
		return
	}
	if k, is := Get(got, at, size); !is || k != n {
		t.Fatalf("Put(%v, %d, %d, %d) is got as %d", b, at, size, n, k)
	}
	if len(got) != len(b) || !bytes.Equal(got[:at], b[:at]) || !bytes.Equal(got[at+size:], b[at+size:]) {
		t.Fatalf("Put(%v, %d, %d): other bytes in %v", b, at, size, got)
	}
	back, _ := Get(b, at, size)
	if again, _ := Put(got, at, size, back); !bytes.Equal(again, b) {
		t.Fatalf("put back at %d, %d: %v, was %v", at, size, again, b)
	}
}

// What is handed in is neither changed nor kept, and what is answered is new memory.
func TestNothingIsShared(t *testing.T) {
	room := []byte{1, 2, 3, 4, 5, 6}
	b := room[:3]
	spoil := func(x []byte) {
		x = x[:cap(x)]
		for i := range x {
			x[i] = 99
		}
		_ = append(x, 99)
	}
	cut, _ := Cut(b, 0, 3)
	spoil(cut)
	cut, _ = Cut(b, 0, 2)
	spoil(cut)
	cut, _ = Cut(b, 3, 0)
	spoil(append(cut, 1))
	put, _ := Put(b, 1, 2, 0xffff)
	spoil(put)
	put, _ = Put(b, 0, 1, 1)
	spoil(put)
	_, _ = Get(b, 0, 3)
	_ = Hex(b)
	if !bytes.Equal(room, []byte{1, 2, 3, 4, 5, 6}) {
		t.Error(room)
	}
	cut, _ = Cut(b, 0, 3)
	put, _ = Put(b, 0, 1, 9)
	room[0], room[1] = 50, 51
	if !bytes.Equal(cut, []byte{1, 2, 3}) || !bytes.Equal(put, []byte{9, 2, 3}) {
		t.Error(cut, put)
	}
}

// P1.2: Hex, and Unhex of what it tells.
func TestHex(t *testing.T) {
	if s := Hex([]byte{255, 0}); s != "ff00" {
		t.Error(s)
	}
	if Hex(nil) != "" || Hex([]byte{}) != "" {
		t.Error("of no bytes")
	}
	all := make([]byte, 256)
	want := ""
	for i := range all {
		all[i] = byte(i)
		want += strings.Repeat("0", 2-len(strconv.FormatInt(int64(i), 16))) + strconv.FormatInt(int64(i), 16)
	}
	if s := Hex(all); s != want {
		t.Error(s)
	}
	for _, s := range []string{want, strings.ToUpper(want)} {
		if b, is := Unhex(s); !is || !bytes.Equal(b, all) {
			t.Error(b, is)
		}
	}
}

// P1.2: Unhex of ordinary texts, capital letters, and texts that are no bytes.
func TestUnhex(t *testing.T) {
	for s, want := range map[string][]byte{"": nil, "00": {0}, "0f": {15}, "F0": {240}, "aB": {171}, "Ab": {171}, "ff00FF": {255, 0, 255}, "0123456789abcdefABCDEF": {1, 0x23, 0x45, 0x67, 0x89, 0xab, 0xcd, 0xef, 0xab, 0xcd, 0xef}} {
		if b, is := Unhex(s); !is || !bytes.Equal(b, want) {
			t.Errorf("Unhex(%q): %v %v", s, b, is)
		}
	}
	for _, s := range []string{"0", "f", "000", "0102030", "g0", "0g", "G0", "0G", "/0", ":0", "@0", "`0", "0x", "0X01", "-1", "+1", " 0", "0 ", "00 0", "00\n0", "0\x00", "é", "ÿÿ", "0é0", "00é", "０", "０0", "\xff\xff", "0\xff", "\xc3\x28", "a\u0301b"} {
		if b, is := Unhex(s); is || len(b) != 0 {
			t.Errorf("Unhex(%q): %v %v", s, b, is)
		}
	}
}

// P1.2: each single byte as a sign, at both places, is a digit just if it is one of these 22.
func TestUnhexEachSign(t *testing.T) {
	for i := range 256 {
		c := string([]byte{byte(i)})
		worth := strings.Index("0123456789abcdef", c)
		if worth < 0 && strings.Contains("ABCDEF", c) {
			worth = 10 + strings.Index("ABCDEF", c)
		}
		high, is := Unhex(c + "0")
		if is != (worth >= 0) || is && (len(high) != 1 || int(high[0]) != 16*worth) {
			t.Errorf("Unhex(%q): %v %v", c+"0", high, is)
		}
		low, is := Unhex("0" + c)
		if is != (worth >= 0) || is && (len(low) != 1 || int(low[0]) != worth) {
			t.Errorf("Unhex(%q): %v %v", "0"+c, low, is)
		}
	}
}

// P1.3: Digits.
func TestDigits(t *testing.T) {
	for n, want := range map[int]string{0: "0", 7: "7", 10: "10", 1048575: "1048575", -1: "-1", -10: "-10", math.MaxInt64: "9223372036854775807", math.MinInt64: "-9223372036854775808"} {
		if s := Digits(n); s != want {
			t.Errorf("Digits(%d): %q", n, s)
		}
	}
}

// P1.3: Number by values that are written out.
func TestNumber(t *testing.T) {
	for _, c := range []struct {
		s    string
		most int
		n    int
		is   bool
	}{
		{"0", 0, 0, true}, {"0", 100, 0, true}, {"1", 0, 0, false}, {"9", 9, 9, true}, {"9", 8, 0, false}, {"10", 10, 10, true}, {"10", 9, 0, false},
		{"99", 100, 99, true}, {"100", 100, 100, true}, {"101", 100, 0, false}, {"200", 100, 0, false}, {"1000", 100, 0, false},
		{"1048575", 1048575, 1048575, true}, {"1048576", 1048575, 0, false},
		{"9223372036854775807", math.MaxInt64, math.MaxInt64, true}, {"9223372036854775806", math.MaxInt64, math.MaxInt64 - 1, true},
		{"9223372036854775807", math.MaxInt64 - 1, 0, false}, {"9223372036854775808", math.MaxInt64, 0, false},
		{"9223372036854775810", math.MaxInt64, 0, false}, {"18446744073709551616", math.MaxInt64, 0, false}, {"18446744073709551617", 5, 0, false},
		{"-9223372036854775808", math.MaxInt64, 0, false}, {"92233720368547758070", math.MaxInt64, 0, false},
		{"0", -1, 0, false}, {"-1", -1, 0, false}, {"-1", 100, 0, false}, {"0", math.MinInt64, 0, false}, {"9", math.MinInt64, 0, false},
		{"9", math.MinInt64 + 3, 0, false}, {"5", -5, 0, false}, {"-9223372036854775808", math.MinInt64, 0, false},
	} {
		if n, is := Number(c.s, c.most); n != c.n || is != c.is {
			t.Errorf("Number(%q, %d): %d %v", c.s, c.most, n, is)
		}
	}
}

// P1.3: texts that are no number's Digits, or that of one below 0.
func TestNumberWrong(t *testing.T) {
	for _, s := range []string{"", "00", "01", "007", "-", "+", "+0", "+1", "-0", "-1", "-01", " 1", "1 ", "1\n", "\t1", "1 2", "1_000", "1.0", "1e3", "0x1", "0b1", "a", "f", "F", "1a", "/", ":", "１", "٣", "1é", "é", "\xff", "1\xff", "1\x00", "\x00", strings.Repeat("0", 1000), strings.Repeat("9", 1000)} {
		for _, most := range []int{0, 1, 100, math.MaxInt64, -1, math.MinInt64} {
			if n, is := Number(s, most); n != 0 || is {
				t.Errorf("Number(%q, %d): %d %v", s, most, n, is)
			}
		}
	}
}

// P1.4: Digits are read as the number that they show.
func TestDigitsAreRead(t *testing.T) {
	numbers := []int{math.MinInt64, math.MinInt64 + 1, math.MaxInt64}
	for i := -300; i <= 70000; i++ {
		numbers = append(numbers, i)
	}
	for shift := range 63 {
		n := 1 << shift
		numbers = append(numbers, n-1, n, n+1, -n, math.MaxInt64-n)
	}
	for n := 1; n < math.MaxInt64/10; n *= 10 {
		numbers = append(numbers, n-1, n, n+1, 9*n)
	}
	for _, n := range numbers {
		s := Digits(n)
		for _, most := range []int{math.MinInt64, n - 1, n, n + 1, 0, -1, math.MaxInt64} {
			k, is := Number(s, most)
			if in := n >= 0 && n <= most; is != in || is && k != n || !is && k != 0 {
				t.Fatalf("Number(Digits(%d), %d): %d %v", n, most, k, is)
			}
		}
	}
}

// P1.3: s is read just if it is some number's Digits: each text of up to three of these signs.
func TestNumberEachText(t *testing.T) {
	signs := []string{"", "0", "1", "9", "-", "+", " ", "a", "/", ":"}
	for _, x := range signs {
		for _, y := range signs {
			for _, z := range signs {
				s := x + y + z
				n, is := Number(s, 900)
				k, err := strconv.Atoi(s)
				if want := err == nil && strconv.Itoa(k) == s && k >= 0 && k <= 900; is != want || is && n != k || !is && n != 0 {
					t.Fatalf("Number(%q, 900): %d %v", s, n, is)
				}
			}
		}
	}
}
