package entry

import (
	"bytes"
	"math"
	"slices"
	"testing"

	"footplate/api"
)

// packs are entries and their bytes, written out by hand: each field alone, at its edges, and some together.
var packs = []struct {
	e api.Entry
	b [4]byte
}{
	{api.Entry{}, [4]byte{}},
	{api.Entry{Label: 16, Class: 3, Bottom: true, Ttl: 64}, [4]byte{0, 1, 7, 64}}, // the chapter's example
	{api.Entry{Label: 1}, [4]byte{0, 0, 0x10, 0}},
	{api.Entry{Label: 15}, [4]byte{0, 0, 0xf0, 0}},
	{api.Entry{Label: 1 << 19}, [4]byte{0x80, 0, 0, 0}},
	{api.Entry{Label: 1048574}, [4]byte{0xff, 0xff, 0xe0, 0}},
	{api.Entry{Label: 1048575}, [4]byte{0xff, 0xff, 0xf0, 0}},
	{api.Entry{Class: 1}, [4]byte{0, 0, 2, 0}},
	{api.Entry{Class: 4}, [4]byte{0, 0, 8, 0}},
	{api.Entry{Class: 7}, [4]byte{0, 0, 14, 0}},
	{api.Entry{Bottom: true}, [4]byte{0, 0, 1, 0}},
	{api.Entry{Ttl: 1}, [4]byte{0, 0, 0, 1}},
	{api.Entry{Ttl: 255}, [4]byte{0, 0, 0, 255}},
	{api.Entry{Label: 1048575, Class: 7, Bottom: true, Ttl: 255}, [4]byte{255, 255, 255, 255}},
	{api.Entry{Label: 1048575, Class: 7, Ttl: 255}, [4]byte{255, 255, 254, 255}},
	{api.Entry{Label: 0x12345, Class: 5, Bottom: true, Ttl: 0x9a}, [4]byte{0x12, 0x34, 0x5b, 0x9a}},
}

// some is n entries that hang on n and seed alone; their Bottoms are as they come.
func some(n int, seed uint32) []api.Entry {
	next := func() uint32 {
		seed = seed*1664525 + 1013904223
		return seed >> 8
	}
	var l []api.Entry
	for range n {
		l = append(l, api.Entry{Label: int(next() % (1 << 20)), Class: uint8(next() >> 4 % 8), Bottom: next()>>6%2 == 1, Ttl: uint8(next() >> 3)})
	}
	return l
}

// wire is a stack's bytes by sums instead of shifts; the bottom is the entry at that place (none below 0).
func wire(l []api.Entry, bottom int) []byte {
	var out []byte
	for i, e := range l {
		third := e.Label%16*16 + int(e.Class)*2
		if i == bottom {
			third++
		}
		out = append(out, byte(e.Label/4096), byte(e.Label/16%256), byte(third), e.Ttl)
	}
	return out
}

// ended is a copy of l whose last entry alone is a Bottom.
func ended(l []api.Entry) []api.Entry {
	out := slices.Clone(l)
	for i := range out {
		out[i].Bottom = i == len(out)-1
	}
	return out
}

// P3.1: Pack of entries that may be.
func TestPack(t *testing.T) {
	for _, c := range packs {
		if b, bad := Pack(c.e); !bytes.Equal(b, c.b[:]) || bad != api.OK {
			t.Errorf("Pack(%v) = % x, %d; want % x", c.e, b, bad, c.b)
		}
	}
}

// P3.1: Pack of what may not be asked. A Class can't be below 0: what a number below 0 wraps round to is above 7.
func TestPackWrong(t *testing.T) {
	below := -1
	for _, e := range []api.Entry{
		{Label: -1}, {Label: -1048575}, {Label: math.MinInt}, {Label: 1048576}, {Label: 1 << 32}, {Label: 1<<32 + 16}, {Label: math.MaxInt},
		{Class: 8}, {Class: 9}, {Class: 16}, {Class: 128}, {Class: uint8(below)}, {Label: -1, Class: 8},
		{Label: 1048576, Class: 7, Bottom: true, Ttl: 255}, {Label: 1048575, Class: 8, Bottom: true, Ttl: 255},
	} {
		if b, bad := Pack(e); len(b) != 0 || bad != api.ErrArg {
			t.Errorf("Pack(%v) = % x, %d; want ErrArg", e, b, bad)
		}
	}
}

// P3.1: Unpack of just four bytes, and of more.
func TestUnpack(t *testing.T) {
	for _, c := range packs {
		for _, more := range [][]byte{nil, {0}, {255}, {255, 255, 255, 255}, make([]byte, 100)} {
			b := slices.Concat(c.b[:], more)
			if e, bad := Unpack(b); e != c.e || bad != api.OK {
				t.Errorf("Unpack(% x) = %v, %d; want %v", b, e, bad, c.e)
			}
		}
	}
}

// P3.1: Unpack of too few bytes, whatever room is behind them.
func TestUnpackShort(t *testing.T) {
	full := []byte{255, 255, 255, 255}
	for _, b := range [][]byte{nil, {}, {1}, {0, 1}, {0, 1, 7}, full[:0], full[:3]} {
		if e, bad := Unpack(b); e != (api.Entry{}) || bad != api.ErrShort {
			t.Errorf("Unpack(% x) = %v, %d; want ErrShort", b, e, bad)
		}
	}
}

// P3.2: stacks of 1 to 16 entries, with nothing and with something behind them.
func TestStack(t *testing.T) {
	for n := 1; n <= 16; n++ {
		want := ended(some(n, uint32(n)))
		for _, more := range [][]byte{nil, {0}, {1, 1, 1}, {255, 255, 255, 255}, make([]byte, 80), bytes.Repeat([]byte{0, 0, 1, 9}, 20)} {
			b := slices.Concat(wire(want, n-1), more)
			if l, size, bad := Stack(b); !slices.Equal(l, want) || size != 4*n || bad != api.OK {
				t.Errorf("Stack(% x) = %v, %d, %d; want %v", b, l, size, bad, want)
			}
		}
	}
}

// P3.2: bytes too few behind an entry that is no Bottom; that 16 entries are there is asked behind that.
func TestStackShort(t *testing.T) {
	b := wire(some(17, 3), 16)
	for size := range 4 * 16 {
		if l, n, bad := Stack(b[:size]); len(l) != 0 || n != 0 || bad != api.ErrShort {
			t.Errorf("Stack of %d bytes = %v, %d, %d; want ErrShort", size, l, n, bad)
		}
	}
	if l, n, bad := Stack(nil); len(l) != 0 || n != 0 || bad != api.ErrShort {
		t.Errorf("Stack(nil) = %v, %d, %d; want ErrShort", l, n, bad)
	}
}

// P3.2: no Bottom among the first 16, whatever follows.
func TestStackBottom(t *testing.T) {
	for _, bottom := range []int{-1, 16, 17} {
		b := wire(some(18, 5), bottom)
		for size := 4 * 16; size <= len(b); size++ {
			if l, n, bad := Stack(b[:size]); len(l) != 0 || n != 0 || bad != api.ErrBottom {
				t.Errorf("Stack of %d bytes with its bottom at %d = %v, %d, %d; want ErrBottom", size, bottom, l, n, bad)
			}
		}
	}
}

// P3.2: a Bottom is that bit alone, not a field beside it.
func TestStackOtherBits(t *testing.T) {
	b := []byte{255, 255, 254, 255, 0, 0, 1, 0, 0, 0, 1, 0}
	want := []api.Entry{{Label: 1048575, Class: 7, Ttl: 255}, {Bottom: true}}
	if l, n, bad := Stack(b); !slices.Equal(l, want) || n != 8 || bad != api.OK {
		t.Error(l, n, bad)
	}
}

// P3.3: Put of 0 to 16 entries, whatever they say of the bottom.
func TestPut(t *testing.T) {
	for n := range 17 {
		for _, says := range []func(i int) bool{
			func(int) bool { return false },
			func(int) bool { return true },
			func(i int) bool { return i == 0 },
			func(i int) bool { return i != n-1 },
			func(i int) bool { return i == n-1 },
		} {
			l := some(n, uint32(n)+40)
			for i := range l {
				l[i].Bottom = says(i)
			}
			if b, bad := Put(l); !bytes.Equal(b, wire(l, n-1)) || bad != api.OK {
				t.Errorf("Put(%v) = % x, %d; want % x", l, b, bad, wire(l, n-1))
			}
		}
	}
	want := []byte{0, 6, 0x40, 3, 0, 12, 0x83, 0}
	if b, bad := Put([]api.Entry{{Label: 100, Bottom: true, Ttl: 3}, {Label: 200, Class: 1}}); !bytes.Equal(b, want) || bad != api.OK {
		t.Errorf("Put = % x, %d; want % x", b, bad, want)
	}
}

// P3.3: no entries, nil or empty, are no bytes.
func TestPutNone(t *testing.T) {
	for _, l := range [][]api.Entry{nil, {}, some(3, 1)[:0]} {
		if b, bad := Put(l); len(b) != 0 || bad != api.OK {
			t.Errorf("Put(%v) = % x, %d", l, b, bad)
		}
	}
}

// P3.3: more than 16 entries are told ahead of what is wrong with one of them.
func TestPutDepth(t *testing.T) {
	for _, n := range []int{17, 18, 100, 70000} {
		l := some(n, 9)
		if b, bad := Put(l); len(b) != 0 || bad != api.ErrDepth {
			t.Errorf("Put of %d = % x, %d; want ErrDepth", n, b, bad)
		}
		l[0].Label = -1
		if b, bad := Put(l); len(b) != 0 || bad != api.ErrDepth {
			t.Errorf("Put of %d with a wrong one = % x, %d; want ErrDepth", n, b, bad)
		}
	}
}

// P3.3: an entry that can't be packed, wherever it stands.
func TestPutWrong(t *testing.T) {
	for n := 1; n <= 16; n++ {
		for at := range n {
			for _, wrong := range []api.Entry{{Label: -1}, {Label: 1048576}, {Class: 8}} {
				l := some(n, uint32(at))
				l[at] = wrong
				if b, bad := Put(l); len(b) != 0 || bad != api.ErrArg {
					t.Errorf("Put of %d with %v at %d = % x, %d; want ErrArg", n, wrong, at, b, bad)
				}
			}
		}
	}
}

// P3.3: stacks that are the same, or differ in Bottom alone.
func TestSame(t *testing.T) {
	for n := range 20 {
		a := some(n, uint32(n))
		b := slices.Clone(a)
		if !Same(a, b) || !Same(a, a) {
			t.Errorf("%v isn't the same as itself", a)
		}
		for i := range b {
			b[i].Bottom = !b[i].Bottom
			if !Same(a, b) || !Same(b, a) {
				t.Errorf("%v and %v differ in Bottom alone", a, b)
			}
		}
	}
	if !Same(nil, nil) || !Same(nil, []api.Entry{}) || !Same([]api.Entry{}, nil) {
		t.Error("stacks of no entries aren't the same")
	}
	// What can't be packed is held against its like all the same.
	odd := []api.Entry{{Label: -5, Class: 200}}
	if !Same(odd, []api.Entry{{Label: -5, Class: 200, Bottom: true}}) || Same(odd, []api.Entry{{Label: -5, Class: 201}}) {
		t.Error("entries that can't be packed")
	}
}

// P3.3: stacks that differ in one field of one entry, in their length, or in their order.
func TestSameNot(t *testing.T) {
	for n := 1; n <= 17; n++ {
		a := some(n, uint32(n))
		for at := range n {
			for _, turn := range []func(e *api.Entry){
				func(e *api.Entry) { e.Label ^= 1 },
				func(e *api.Entry) { e.Label ^= 1 << 19 },
				func(e *api.Entry) { e.Class ^= 4 },
				func(e *api.Entry) { e.Ttl ^= 1 },
				func(e *api.Entry) { e.Ttl++; e.Bottom = !e.Bottom },
			} {
				b := slices.Clone(a)
				turn(&b[at])
				if Same(a, b) || Same(b, a) {
					t.Errorf("%v and %v are told to be the same", a, b)
				}
			}
		}
		if Same(a, a[:n-1]) || Same(a[:n-1], a) || Same(a, nil) || Same(nil, a) {
			t.Errorf("%v is the same as a part of it", a)
		}
	}
	x, y := api.Entry{Label: 20}, api.Entry{Label: 21}
	if Same([]api.Entry{x, y}, []api.Entry{y, x}) {
		t.Error("the order isn't looked at")
	}
}

// P3.4: what is put is told again, whatever stands behind it; a stack of none isn't one that could be told.
func TestPutStack(t *testing.T) {
	for n := 1; n <= 16; n++ {
		for seed := range uint32(20) {
			l := some(n, seed)
			b, bad := Put(l)
			if bad != api.OK {
				t.Fatal(l, bad)
			}
			for _, more := range [][]byte{nil, {0}, {255, 255}, {0, 0, 1}, {1, 2, 3, 4}, b, make([]byte, 70), wire(some(16, seed), 0)} {
				m, size, bad := Stack(slices.Concat(b, more))
				if !slices.Equal(m, ended(l)) || !Same(l, m) || size != len(b) || bad != api.OK {
					t.Errorf("Put(%v) is told as %v, %d, %d", l, m, size, bad)
				}
			}
		}
	}
}

// P3.4: of one entry the same holds, and of bytes the other way round.
func TestPackUnpack(t *testing.T) {
	for _, e := range some(3000, 77) {
		b, bad := Pack(e)
		if got, no := Unpack(b); got != e || bad != api.OK || no != api.OK {
			t.Errorf("Pack(%v) is told as %v", e, got)
		}
		e.Bottom = true
		b, _ = Pack(e)
		if l, n, bad := Stack(b); !slices.Equal(l, []api.Entry{e}) || n != 4 || bad != api.OK {
			t.Errorf("Pack(%v) is a stack of %v", e, l)
		}
	}
	for i := range uint32(5000) {
		x := i * 2654435761
		b := []byte{byte(x >> 24), byte(x >> 16), byte(x >> 8), byte(x)}
		e, _ := Unpack(b)
		if got, bad := Pack(e); !bytes.Equal(got, b) || bad != api.OK {
			t.Errorf("Unpack(% x) is packed as % x", b, got)
		}
	}
}

// What is handed in stays as it is, the room behind its end included, and no answer is part of it or of another answer.
func TestNothingShared(t *testing.T) {
	l := some(16, 4)
	whole := slices.Clone(l)
	first, _ := Put(l[:5])
	second, _ := Put(l[:5])
	Same(l[:3], l[2:6])
	if !slices.Equal(l, whole) {
		t.Error("a stack was changed")
	}
	b := slices.Concat(first, []byte{9, 9, 9, 9})
	kept := slices.Clone(b)
	m, _, _ := Stack(b[:len(first)])
	o, _, _ := Stack(b[:len(first)])
	e, _ := Unpack(b)
	if !bytes.Equal(b, kept) {
		t.Error("bytes were changed")
	}
	clear(b)
	clear(first)
	clear(m)
	if want := ended(whole[:5]); !slices.Equal(o, want) || e != want[0] || !bytes.Equal(second, kept[:20]) {
		t.Error("an answer shares what it is made of")
	}
	p, _ := Pack(whole[0])
	q, _ := Pack(whole[0])
	clear(p)
	if got, _ := Unpack(q); got != whole[0] {
		t.Error("two answers of Pack are one")
	}
}
