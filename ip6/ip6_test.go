package ip6

import (
	"bytes"
	"math"
	"slices"
	"testing"

	"footplate/api"
)

// random is a row of numbers that hangs on its seed alone.
func random(seed uint32) func() int {
	return func() int {
		seed = seed*1664525 + 1013904223
		return int(seed >> 8)
	}
}

// filled is n bytes that differ from each other and from 0 mostly.
func filled(n int) []byte {
	b := make([]byte, n)
	for i := range b {
		b[i] = byte(7*i + i/256 + 1)
	}
	return b
}

// some is a header whose fields hang on the seed alone.
func some(seed uint32) api.Ip6 {
	next := random(seed)
	h := api.Ip6{Class: uint8(next() >> 3), Flow: next() >> 2 % 1048576, Len: next(), Next: uint8(next() >> 5), Ttl: uint8(next() >> 4)}
	for i := range 16 {
		h.Src[i], h.Dst[i] = byte(next()>>5), byte(next()>>5)
	}
	return h
}

// wire is a packet by sums instead of shifts.
func wire(h api.Ip6, body []byte) []byte {
	b := []byte{
		96 + h.Class/16, h.Class%16*16 + byte(h.Flow/65536), byte(h.Flow / 256 % 256), byte(h.Flow % 256),
		byte(len(body) / 256), byte(len(body) % 256), h.Next, h.Ttl,
	}
	return slices.Concat(b, h.Src[:], h.Dst[:], body)
}

// example is the chapter's.
func example() (api.Ip6, []byte) {
	h := api.Ip6{Class: 1, Flow: 2, Len: 3, Next: 6, Ttl: 64, Src: [16]byte{0x20, 1, 0xd, 0xb8, 15: 1}, Dst: [16]byte{0xfe, 0x80, 15: 9}}
	b := make([]byte, 40)
	copy(b, []byte{0x60, 0x10, 0, 2, 0, 3, 6, 64, 0x20, 1, 0xd, 0xb8})
	b[23], b[24], b[25], b[39] = 1, 0xfe, 0x80, 9
	return h, append(b, 'a', 'b', 'c')
}

// refused holds that Parse, Body and Ttl tell just this error of b.
func refused(t *testing.T, what string, b []byte, want api.Errno) {
	t.Helper()
	if h, bad := Parse(b); h != (api.Ip6{}) || bad != want {
		t.Errorf("%s: Parse = %v, %d; want error %d alone", what, h, bad, want)
	}
	if x := Body(b); len(x) != 0 {
		t.Errorf("%s: Body = % x; want none", what, x)
	}
	if x, bad := Ttl(b, 3); len(x) != 0 || bad != want {
		t.Errorf("%s: Ttl = % x, %d; want error %d alone", what, x, bad, want)
	}
}

// taken holds that Parse and Body tell this header and this body of b.
func taken(t *testing.T, what string, b []byte, want api.Ip6, body []byte) {
	t.Helper()
	if h, bad := Parse(b); h != want || bad != api.OK {
		t.Errorf("%s: Parse = %v, %d; want %v", what, h, bad, want)
	}
	if x := Body(b); !bytes.Equal(x, body) {
		t.Errorf("%s: Body = % x; want % x", what, x, body)
	}
}

// P5.1, P5.2: the chapter's example, each way.
func TestExample(t *testing.T) {
	h, b := example()
	taken(t, "the example", b, h, []byte("abc"))
	if got, bad := Put(h, []byte("abc")); !bytes.Equal(got, b) || bad != api.OK {
		t.Errorf("Put = % x, %d; want % x", got, bad, b)
	}
	got, bad := Ttl(b, 63)
	b[7] = 63
	if !bytes.Equal(got, b) || bad != api.OK {
		t.Errorf("Ttl = % x, %d; want % x", got, bad, b)
	}
}

// P5.1, P5.2: each field stands where it should, alone and at its edges.
func TestFields(t *testing.T) {
	for _, c := range []struct {
		at   int
		with byte
		set  func(h *api.Ip6)
	}{
		{0, 0x61, func(h *api.Ip6) { h.Class = 16 }},
		{0, 0x68, func(h *api.Ip6) { h.Class = 128 }},
		{0, 0x6f, func(h *api.Ip6) { h.Class = 240 }},
		{1, 0x10, func(h *api.Ip6) { h.Class = 1 }},
		{1, 0x80, func(h *api.Ip6) { h.Class = 8 }},
		{1, 0xf0, func(h *api.Ip6) { h.Class = 15 }},
		{1, 0x01, func(h *api.Ip6) { h.Flow = 65536 }},
		{1, 0x08, func(h *api.Ip6) { h.Flow = 524288 }},
		{1, 0xff, func(h *api.Ip6) { h.Class, h.Flow = 15, 983040 }},
		{2, 1, func(h *api.Ip6) { h.Flow = 256 }},
		{2, 255, func(h *api.Ip6) { h.Flow = 65280 }},
		{3, 1, func(h *api.Ip6) { h.Flow = 1 }},
		{3, 255, func(h *api.Ip6) { h.Flow = 255 }},
		{6, 1, func(h *api.Ip6) { h.Next = 1 }},
		{6, 255, func(h *api.Ip6) { h.Next = 255 }},
		{7, 1, func(h *api.Ip6) { h.Ttl = 1 }},
		{7, 255, func(h *api.Ip6) { h.Ttl = 255 }},
		{8, 10, func(h *api.Ip6) { h.Src[0] = 10 }},
		{23, 255, func(h *api.Ip6) { h.Src[15] = 255 }},
		{24, 10, func(h *api.Ip6) { h.Dst[0] = 10 }},
		{39, 255, func(h *api.Ip6) { h.Dst[15] = 255 }},
	} {
		b := append([]byte{0x60, 5: 2, 39: 0}, 'x', 'y')
		b[c.at] = c.with
		want := api.Ip6{Len: 2}
		c.set(&want)
		taken(t, "a field", b, want, []byte("xy"))
		if got, bad := Put(want, []byte("xy")); !bytes.Equal(got, b) || bad != api.OK {
			t.Errorf("Put(%v) = % x, %d; want % x", want, got, bad, b)
		}
	}
}

// P5.1, P5.2: Class stands in two bytes, Flow beside it, whatever both are.
func TestClass(t *testing.T) {
	for class := range 256 {
		for _, flow := range []int{0, 1, 65535, 65536, 0xabcde, 1048574, 1048575} {
			h := api.Ip6{Class: uint8(class), Flow: flow, Len: 1, Ttl: 2}
			b := wire(h, []byte("c"))
			taken(t, "a class", b, h, []byte("c"))
			if got, bad := Put(h, []byte("c")); !bytes.Equal(got, b) || bad != api.OK {
				t.Errorf("Put(%v) = % x, %d; want % x", h, got, bad, b)
			}
		}
	}
}

// P5.1: fewer than 40 bytes, whatever they are.
func TestParseShort(t *testing.T) {
	h, b := example()
	refused(t, "no bytes", nil, api.ErrShort)
	refused(t, "no bytes", []byte{}, api.ErrShort)
	for n := range 40 {
		refused(t, "a beginning", b[:n], api.ErrShort)
		refused(t, "noughts", make([]byte, n), api.ErrShort)
		refused(t, "ones", bytes.Repeat([]byte{255}, n), api.ErrShort)
	}
	whole := wire(h, nil)
	h.Len = 0
	taken(t, "40 bytes", whole, h, nil)
	refused(t, "39 bytes", whole[:39], api.ErrShort)
}

// P5.1: all first bytes, with a Len that is right, and with one that is too great.
func TestParseFirst(t *testing.T) {
	for first := range 256 {
		h := some(uint32(first))
		b := wire(h, filled(30))
		h.Len, h.Class = 30, h.Class%16+byte(first%16*16)
		b[0] = byte(first)
		long := slices.Clone(b)
		long[4] = 1
		if first < 96 || first > 111 {
			refused(t, "a first byte", b, api.ErrVersion)
			refused(t, "a first byte, and Len", long, api.ErrVersion)
			continue
		}
		taken(t, "a first byte", b, h, filled(30))
		refused(t, "Len", long, api.ErrLength)
	}
	refused(t, "40 bytes of 0", make([]byte, 40), api.ErrVersion)
	refused(t, "40 bytes of 255", bytes.Repeat([]byte{255}, 40), api.ErrVersion)
}

// P5.1: Len 0, fewer than the bytes behind the header, as many, more; what stands behind Len is no part of the body.
func TestParseLen(t *testing.T) {
	for _, behind := range []int{0, 1, 2, 39, 40, 41, 255, 256, 300, 65495, 65534, 65535, 65536, 70000} {
		h := some(uint32(behind))
		b := append(wire(h, nil), filled(behind)...)
		for _, n := range []int{0, 1, 39, 40, 41, behind - 41, behind - 40, behind - 39, behind - 1, behind, behind + 1, behind + 40, 255, 256, 512, 65495, 65496, 65535} {
			if n < 0 || n > 65535 {
				continue
			}
			b[4], b[5] = byte(n/256), byte(n%256)
			if n > behind {
				refused(t, "Len", b, api.ErrLength)
				continue
			}
			h.Len = n
			taken(t, "Len", b, h, filled(behind)[:n])
		}
	}
}

// P5.2: headers of all kinds, with bodies of all kinds.
func TestPut(t *testing.T) {
	for seed := range uint32(400) {
		h, body := some(seed), filled(int(seed)*3%700)
		if b, bad := Put(h, body); !bytes.Equal(b, wire(h, body)) || bad != api.OK {
			t.Errorf("Put(%v, % x) = % x, %d; want % x", h, body, b, bad, wire(h, body))
		}
	}
	if b, bad := Put(api.Ip6{}, nil); !bytes.Equal(b, []byte{0x60, 39: 0}) || bad != api.OK {
		t.Errorf("Put of nothing = % x, %d", b, bad)
	}
}

// P5.2: a Len that says otherwise plays no part.
func TestPutLen(t *testing.T) {
	for _, n := range []int{0, 1, 3, 4, 5, 40, 44, 65495, 65535, 65536, -1, math.MaxInt, math.MinInt} {
		h := api.Ip6{Len: n, Flow: 5, Next: 7, Ttl: 9}
		if b, bad := Put(h, []byte("body")); !bytes.Equal(b, wire(h, []byte("body"))) || bad != api.OK || b[5] != 4 {
			t.Errorf("Put with Len %d = % x, %d", n, b, bad)
		}
	}
}

// P5.2: Flow at its edges, beside Class at its own.
func TestPutFlow(t *testing.T) {
	for _, n := range []int{math.MinInt, -1 << 32, -1048576, -1, 0, 1, 255, 256, 65535, 65536, 1048574, 1048575, 1048576, 1048577, 1 << 24, 1 << 28, 1 << 32, math.MaxInt} {
		for _, class := range []uint8{0, 255} {
			h := api.Ip6{Class: class, Flow: n}
			b, bad := Put(h, []byte("f"))
			switch {
			case n >= 0 && n <= 1048575:
				if !bytes.Equal(b, wire(h, []byte("f"))) || bad != api.OK {
					t.Errorf("Put with Flow %d = % x, %d", n, b, bad)
				}
			case len(b) != 0 || bad != api.ErrArg:
				t.Errorf("Put with Flow %d = % x, %d; want ErrArg", n, b, bad)
			}
		}
	}
}

// P5.2: 40 and the body's bytes, 65535 together at most; what may not be asked is told ahead of that.
func TestPutLength(t *testing.T) {
	h := some(3)
	for _, n := range []int{65494, 65495} {
		if b, bad := Put(h, filled(n)); !bytes.Equal(b, wire(h, filled(n))) || bad != api.OK {
			t.Errorf("Put of %d bytes: %d bytes, %d", n, len(b), bad)
		}
	}
	for _, n := range []int{65496, 65497, 65535, 65536, 65537, 131072} {
		if b, bad := Put(h, filled(n)); len(b) != 0 || bad != api.ErrLength {
			t.Errorf("Put of %d bytes: %d bytes, %d; want ErrLength", n, len(b), bad)
		}
	}
	for _, flow := range []int{-1, 1048576} {
		if b, bad := Put(api.Ip6{Flow: flow}, filled(70000)); len(b) != 0 || bad != api.ErrArg {
			t.Errorf("Put of too much with Flow %d: %d bytes, %d; want ErrArg", flow, len(b), bad)
		}
	}
}

// P5.2, P5.3: another time to live, all else as it was, what stands behind Len, too.
func TestTtl(t *testing.T) {
	for seed := range uint32(60) {
		h := some(seed)
		for _, behind := range []int{0, 1, 5, 400, 70000} {
			b := append(wire(h, filled(11)), filled(behind)...)
			for _, ttl := range []uint8{0, 1, h.Ttl - 1, h.Ttl, h.Ttl + 1, 64, 128, 254, 255} {
				want := slices.Clone(b)
				want[7] = ttl
				got, bad := Ttl(b, ttl)
				if !bytes.Equal(got, want) || bad != api.OK {
					t.Errorf("Ttl of %d bytes, %d: %d bytes, %d", len(b), ttl, len(got), bad)
				}
				parsed := h
				parsed.Ttl, parsed.Len = ttl, 11
				taken(t, "another time to live", got, parsed, filled(11))
			}
		}
	}
}

// P5.3: what is put is parsed, whatever stands behind it.
func TestPutParse(t *testing.T) {
	for seed := range uint32(500) {
		h, body := some(seed+1000), filled(int(seed)*7%1500)
		b, bad := Put(h, body)
		h.Len = len(body)
		if bad != api.OK || len(b) != 40+h.Len {
			t.Fatalf("Put(%v) = %d bytes, %d", h, len(b), bad)
		}
		taken(t, "what is put", b, h, body)
		taken(t, "what is put, and more", append(slices.Clone(b), 1, 2, 3), h, body)
		parsed, _ := Parse(b)
		if again, bad := Put(parsed, Body(b)); !bytes.Equal(again, b) || bad != api.OK {
			t.Errorf("what is parsed is put as % x, not % x", again, b)
		}
	}
}

// What is handed in stays as it is, the room behind its end included, and no answer is part of it or of another answer.
func TestNothingShared(t *testing.T) {
	h, b := example()
	b = append(b, 9, 9, 9)
	kept := slices.Clone(b)
	first, second := Body(b[:43]), Body(b[:43])
	one, _ := Ttl(b[:43], 1)
	two, _ := Ttl(b[:43], 1)
	same, _ := Ttl(b[:43], h.Ttl)
	parsed, _ := Parse(b[:43])
	put, _ := Put(h, b[40:43])
	again, _ := Put(h, b[40:43])
	if !bytes.Equal(b, kept) {
		t.Error("bytes were changed")
	}
	clear(b)
	clear(first)
	clear(one)
	clear(put)
	if !bytes.Equal(second, kept[40:43]) || !bytes.Equal(again, kept[:43]) || !bytes.Equal(same, kept[:43]) || parsed != h || len(two) != 43 || two[7] != 1 || !bytes.Equal(two[8:], kept[8:43]) {
		t.Error("an answer shares what it is made of")
	}
}
