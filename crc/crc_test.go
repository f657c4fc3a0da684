package crc_test

import (
	"bytes"
	stdcrc "hash/crc32"
	"math"
	"math/rand/v2"
	"testing"

	"packetboat/api"
	"packetboat/crc"
)

// sumOf is the document's words, bit by bit.
func sumOf(b []byte) uint32 {
	c := uint32(math.MaxUint32)
	for _, x := range b {
		for k := range 8 {
			differs := c&1 != uint32(x>>k&1)
			c >>= 1
			if differs {
				c ^= 0x82F63B78
			}
		}
	}
	return ^c
}

func some(r *rand.Rand, n int) []byte {
	b := make([]byte, n)
	for i := range b {
		b[i] = byte(r.Uint32())
	}
	return b
}

func TestSum(t *testing.T) {
	for i, c := range []struct {
		text string
		want uint32
	}{{"", 0}, {"123456789", 0xE3069283}, {"a", 0xC1D04330}, {string(make([]byte, 32)), 0x8A9136AA}} {
		if s := crc.Sum([]byte(c.text)); s != c.want {
			t.Errorf("case %d: %X", i, s)
		}
	}
	r := rand.New(rand.NewPCG(2, 1))
	table := stdcrc.MakeTable(stdcrc.Castagnoli)
	for x := range 256 {
		if b := []byte{byte(x)}; crc.Sum(b) != sumOf(b) {
			t.Errorf("of byte %d: %X", x, crc.Sum(b))
		}
	}
	for n := range 200 {
		b := some(r, n)
		if s := crc.Sum(b); s != sumOf(b) || s != stdcrc.Checksum(b, table) {
			t.Errorf("of %d bytes: %X", n, s)
		}
	}
}

func TestMore(t *testing.T) {
	r := rand.New(rand.NewPCG(2, 2))
	for n := range 60 {
		b := some(r, n)
		for cut := range n + 1 {
			if s := crc.More(crc.Sum(b[:cut]), b[cut:]); s != sumOf(b) {
				t.Fatalf("%d of %d: %X", cut, n, s)
			}
		}
	}
	if s := crc.More(77, nil); s != 77 {
		t.Errorf("of none behind: %X", s)
	}
}

func TestSealOpen(t *testing.T) {
	r := rand.New(rand.NewPCG(2, 3))
	for n := range 80 {
		b := some(r, n+8)[:n] // with room behind, that is not to be written to
		old := bytes.Clone(b[:n+8])
		sealed := crc.Seal(b)
		sum := sumOf(b)
		want := append(bytes.Clone(b), byte(sum), byte(sum>>8), byte(sum>>16), byte(sum>>24))
		if !bytes.Equal(sealed, want) {
			t.Fatalf("Seal(%v): %v", b, sealed)
		}
		back, e := crc.Open(sealed)
		if e != api.OK || !bytes.Equal(back, b) {
			t.Fatalf("Open(%v): %v, %d", sealed, back, e)
		}
		if n > 0 { // what is told shares nothing
			back[0]++
			if !bytes.Equal(sealed, want) {
				t.Fatal("Open shares its bytes")
			}
			sealed[0]++
		}
		if !bytes.Equal(b[:n+8], old) {
			t.Fatal("Seal changed its bytes")
		}
	}
}

func TestOpenWrong(t *testing.T) {
	for i, c := range []struct {
		b []byte
		e api.Errno
	}{
		{nil, api.ErrShort}, {[]byte{0}, api.ErrShort}, {[]byte{0, 0, 0}, api.ErrShort}, {[]byte{0, 0, 0, 0}, api.OK},
		{[]byte{1, 0, 0, 0}, api.ErrSum}, {[]byte{0, 0, 0, 1}, api.ErrSum}, {[]byte{0, 0, 0, 0, 0}, api.ErrSum}, {[]byte("123456789\xE3\x06\x92\x83"), api.ErrSum}, {[]byte("123456789\x83\x92\x06\xE3"), api.OK},
	} {
		b, e := crc.Open(c.b)
		if e != c.e || e != api.OK && len(b) != 0 {
			t.Errorf("case %d: %v, %d", i, b, e)
		}
	}
}

// turned is the document's words, by a row of bits.
func turned(b []byte, at int, mask uint32) []byte {
	row := make([]bool, 8*len(b))
	for i := range row {
		row[i] = b[i/8]>>(i%8)&1 == 1
	}
	for k := 0; k < 32; k++ {
		for i := range row {
			if mask>>k&1 == 1 && i-k == at {
				row[i] = !row[i]
			}
		}
	}
	out := make([]byte, len(b))
	for i, bit := range row {
		if bit {
			out[i/8] |= 1 << (i % 8)
		}
	}
	return out
}

func TestTurn(t *testing.T) {
	for i, c := range []struct {
		b    []byte
		at   int
		mask uint32
		want []byte
	}{
		{[]byte{0, 0}, 0, 1, []byte{1, 0}}, {[]byte{0, 0}, 9, 3, []byte{0, 6}}, {[]byte{255}, 7, 1, []byte{127}}, {[]byte{0}, 7, 3, []byte{128}}, {[]byte{0}, -1, 3, []byte{1}},
		{[]byte{0}, -31, 1 << 31, []byte{1}}, {[]byte{0}, -32, math.MaxUint32, []byte{0}}, {[]byte{0}, 8, math.MaxUint32, []byte{0}}, {[]byte{5}, 0, 0, []byte{5}}, {nil, 0, math.MaxUint32, nil},
		{[]byte{1, 2}, math.MaxInt, math.MaxUint32, []byte{1, 2}}, {[]byte{1, 2}, math.MinInt, math.MaxUint32, []byte{1, 2}}, {[]byte{1, 2}, math.MaxInt - 31, math.MaxUint32, []byte{1, 2}},
		{make([]byte, 6), 8, math.MaxUint32, []byte{0, 255, 255, 255, 255, 0}},
	} {
		old := bytes.Clone(c.b)
		b := crc.Turn(c.b, c.at, c.mask)
		if !bytes.Equal(b, c.want) || !bytes.Equal(c.b, old) {
			t.Errorf("case %d: %v", i, b)
		}
		if len(b) > 0 {
			b[0]++
			if !bytes.Equal(c.b, old) {
				t.Errorf("case %d: shares its bytes", i)
			}
		}
	}
	r := rand.New(rand.NewPCG(2, 4))
	for range 2000 {
		b, at, mask := some(r, r.IntN(9)), r.IntN(120)-40, r.Uint32()
		if got := crc.Turn(b, at, mask); !bytes.Equal(got, turned(b, at, mask)) {
			t.Fatalf("Turn(%v, %d, %X): %v", b, at, mask, got)
		}
	}
}

// TestBursts: no burst that turns a bit of sealed bytes is opened.
func TestBursts(t *testing.T) {
	r := rand.New(rand.NewPCG(2, 5))
	for n := range 30 {
		sealed := crc.Seal(some(r, n))
		for at := -32; at < 8*len(sealed)+3; at++ {
			for _, mask := range []uint32{1, 1 << 31, math.MaxUint32, 0x80000001, r.Uint32()} {
				b := crc.Turn(sealed, at, mask)
				if _, e := crc.Open(b); (e != api.OK) == bytes.Equal(b, sealed) || e != api.OK && e != api.ErrSum {
					t.Fatalf("%d bytes, at %d, %X: %d", n, at, mask, e)
				}
			}
		}
	}
}
