package dotted

import (
	"fmt"
	"strings"
	"testing"
)

// edges are bytes where the count of digits, or what an address is for, changes.
func edges() []byte {
	return []byte{0, 1, 9, 10, 11, 99, 100, 101, 126, 127, 128, 199, 200, 223, 224, 239, 240, 249, 250, 254, 255}
}

// none holds that a text is no address's.
func none(t *testing.T, s string) {
	t.Helper()
	if a, is := Parse(s); is || a != [4]byte{} {
		t.Errorf("Parse(%q) = %v, %v; want none", s, a, is)
	}
}

// both holds that an address is shown as that text, and the text parsed as that address.
func both(t *testing.T, a [4]byte, s string) {
	t.Helper()
	if got := Show(a); got != s {
		t.Errorf("Show(%v) = %q; want %q", a, got, s)
	}
	if got, is := Parse(s); got != a || !is {
		t.Errorf("Parse(%q) = %v, %v; want %v", s, got, is, a)
	}
}

// with is a text of four numbers, one of which is another.
func with(place int, number string) string {
	l := []string{"10", "20", "30", "40"}
	l[place] = number
	return strings.Join(l, ".")
}

// P6.1: texts that are written out.
func TestBoth(t *testing.T) {
	for s, a := range map[string][4]byte{
		"192.0.2.1": {192, 0, 2, 1}, "0.0.0.0": {}, "255.255.255.255": {255, 255, 255, 255}, "1.2.3.4": {1, 2, 3, 4},
		"0.9.10.99": {0, 9, 10, 99}, "99.100.255.0": {99, 100, 255, 0}, "100.255.0.9": {100, 255, 0, 9}, "9.10.99.100": {9, 10, 99, 100},
		"0.0.0.1": {0, 0, 0, 1}, "1.0.0.0": {1, 0, 0, 0}, "127.0.0.1": {127, 0, 0, 1},
	} {
		both(t, a, s)
	}
}

// P6.1: each byte at each place.
func TestEachByte(t *testing.T) {
	for place := range 4 {
		for x := range 256 {
			a := [4]byte{10, 20, 30, 40}
			a[place] = byte(x)
			both(t, a, with(place, fmt.Sprint(x)))
		}
	}
}

// P6.1: the chapter's texts that are none, and those that have too few numbers, too many, or empty ones.
func TestNoneByCount(t *testing.T) {
	for _, s := range []string{
		"192.0.2.01", "192.0.2", "192.0.2.256", "",
		"1", "1.2", "1.2.3", "1.2.3.4.5", "1.2.3.4.5.6.7.8", "0.0.0", "0.0.0.0.0", "255.255.255", "255.255.255.255.255", "16909060",
		".", "..", "...", "....", ".....", ".1.2.3", ".1.2.3.4", "1.2.3.", "1.2.3.4.", ".1.2.3.", "..1.2.3.4", "1.2.3.4..",
		"1..3.4", "1..2.3.4", "1.2..3.4", "1.2.3..4", "1..2.3", "1.2..3", "1..2", "..1.2", "1.2..", "1...2", "...1", "1...",
	} {
		none(t, s)
	}
}

// P6.1: at each place numbers that aren't Digits of a byte.
func TestNoneByNumber(t *testing.T) {
	for place := range 4 {
		for _, number := range []string{
			"", "00", "000", "01", "09", "010", "0255", "0000000001", "256", "257", "260", "299", "300", "512", "999", "1000", "2550", "65535", "65536",
			"4294967296", "4294967297", "18446744073709551615", "18446744073709551616", "18446744073709551617", strings.Repeat("1", 5000), strings.Repeat("0", 5000),
			"-0", "-1", "+1", "-", "+", " ", " 1", "1 ", "1\n", "\t1", "\x001", "1\x00", "x", "1x", "x1", "a", "ff", "0x1", "1e1", "1_0", "1,2", "1:2", "1/2", "/", ":", "1.",
			"\u0661", "1\u0662", "\u0661\u0662", "\uff11", "\u00b2", "1\u00b2", "\u0967", "\U0001d7ce", "1\u3002", "\uff0e", "1\uff0e", "\ufeff1", "1\u200b",
			"\xff", "1\xff", "\x801", "\xc0\xae", "1\xd9", "\ufffd", "1\ufffd",
		} {
			none(t, with(place, number))
		}
	}
}

// P6.1: another sign in the place of a point, or beside one.
func TestNoneByPoint(t *testing.T) {
	for _, point := range []string{"", ",", ":", " ", "/", ". ", " .", "-.", "\uff0e", "\u3002", "\u2024", "\x00", "\xff", "\xc0\xae", ".\n", "\u012e"} {
		for place := range 3 {
			l := []string{".", ".", "."}
			l[place] = point
			none(t, "1"+l[0]+"2"+l[1]+"3"+l[2]+"4")
		}
	}
	for _, s := range []string{" 1.2.3.4", "1.2.3.4 ", "1.2.3.4\n", "1.2.3.4/32", "1.2.3.4:80", "::1.2.3.4", "1.2.3.4x", "1.2.3.4\x00", "\ufeff1.2.3.4", "::", "localhost"} {
		none(t, s)
	}
}

// P6.1: long texts end, too.
func TestLong(t *testing.T) {
	for _, s := range []string{strings.Repeat(".", 200000), strings.Repeat("1.", 200000), strings.Repeat("1", 200000), "1.2.3." + strings.Repeat("4", 200000), "1.2.3.4" + strings.Repeat("\u0661", 100000)} {
		if a, is := Parse(s); is || a != [4]byte{} {
			t.Errorf("a text of %d bytes: %v, %v", len(s), a, is)
		}
	}
}

// P6.2: the first bytes that the chapter names, written out.
func TestKindsNamed(t *testing.T) {
	for _, c := range []struct {
		a            [4]byte
		multi, plain bool
	}{
		{[4]byte{0, 0, 0, 0}, false, false}, {[4]byte{0, 1, 2, 3}, false, false}, {[4]byte{1, 0, 0, 0}, false, true}, {[4]byte{1, 255, 255, 255}, false, true},
		{[4]byte{126, 127, 0, 224}, false, true}, {[4]byte{127, 0, 0, 1}, false, false}, {[4]byte{127, 255, 255, 255}, false, false}, {[4]byte{128, 0, 0, 127}, false, true},
		{[4]byte{192, 0, 2, 1}, false, true}, {[4]byte{223, 255, 255, 255}, false, true}, {[4]byte{224, 0, 0, 0}, true, false}, {[4]byte{224, 0, 0, 1}, true, false},
		{[4]byte{239, 255, 255, 255}, true, false}, {[4]byte{240, 0, 0, 0}, false, false}, {[4]byte{240, 255, 255, 255}, false, false}, {[4]byte{254, 255, 255, 255}, false, false},
		{[4]byte{255, 0, 0, 0}, false, false}, {[4]byte{255, 255, 255, 255}, true, false}, {[4]byte{255, 255, 255, 254}, false, false},
		{[4]byte{255, 255, 254, 255}, false, false}, {[4]byte{255, 254, 255, 255}, false, false}, {[4]byte{255, 255, 255, 0}, false, false}, {[4]byte{255, 0, 255, 255}, false, false},
	} {
		if Multi(c.a) != c.multi || Plain(c.a) != c.plain {
			t.Errorf("%v: Multi %v, Plain %v; want %v, %v", c.a, Multi(c.a), Plain(c.a), c.multi, c.plain)
		}
	}
}

// P6.2: each first byte, with edges behind it.
func TestKinds(t *testing.T) {
	for first := range 256 {
		for _, b := range edges() {
			for _, c := range edges() {
				for _, d := range edges() {
					a := [4]byte{byte(first), b, c, d}
					all := first == 255 && b == 255 && c == 255 && d == 255
					multi := first/16 == 14 || all
					plain := first != 0 && first != 127 && first < 224
					if Multi(a) != multi || Plain(a) != plain {
						t.Fatalf("%v: Multi %v, Plain %v", a, Multi(a), Plain(a))
					}
				}
			}
		}
	}
}

// P6.3: what is shown is parsed.
func TestShownIsParsed(t *testing.T) {
	for _, a0 := range edges() {
		for _, a1 := range edges() {
			for _, a2 := range edges() {
				for _, a3 := range edges() {
					both(t, [4]byte{a0, a1, a2, a3}, fmt.Sprintf("%d.%d.%d.%d", a0, a1, a2, a3))
				}
			}
		}
	}
}

// P6.3: a text that is parsed is what is shown: all texts of few signs, and each text that is one sign off.
func TestParsedIsShown(t *testing.T) {
	held := func(s string) bool {
		a, is := Parse(s)
		if is && Show(a) != s {
			t.Fatalf("Parse(%q) = %v, which is shown as %q", s, a, Show(a))
		}
		return is
	}
	count := 0
	level := []string{""}
	for range 8 {
		var next []string
		for _, s := range level {
			for _, sign := range []string{"0", "2", "6", "."} {
				next = append(next, s+sign)
			}
		}
		for _, s := range next {
			if held(s) {
				count++
			}
		}
		level = next
	}
	// Of seven signs: four numbers of one digit, 3^4. Of eight: one of the four has two digits, 4 * 3^3 * 2*3.
	if want := 81 + 4*27*6; count != want {
		t.Errorf("%d texts are parsed; want %d", count, want)
	}
	for _, s := range []string{"192.0.2.1", "255.255.255.255", "0.0.0.0", "100.99.10.9"} {
		for i := range len(s) + 1 {
			for sign := range 256 {
				held(s[:i] + string([]byte{byte(sign)}) + s[i:])
				if i < len(s) {
					held(s[:i] + string([]byte{byte(sign)}) + s[i+1:])
				}
			}
			held(s[:i] + s[min(i+1, len(s)):])
		}
	}
}

// P6.3: no two addresses have one text.
func TestTextsDiffer(t *testing.T) {
	addresses := map[string][4]byte{}
	for _, x := range edges() {
		for _, y := range edges() {
			for _, a := range [][4]byte{{x, y, 1, 2}, {3, x, y, 4}, {5, 6, x, y}, {x, 7, 8, y}} {
				s := Show(a)
				if was, is := addresses[s]; is && was != a {
					t.Errorf("%v and %v are both shown as %q", was, a, s)
				}
				addresses[s] = a
			}
		}
	}
}
