package frame_test

import (
	"bytes"
	"math"
	"math/rand/v2"
	"slices"
	"testing"

	"packetboat/api"
	"packetboat/crc"
	"packetboat/frame"
	"packetboat/vint"
)

func some(r *rand.Rand, n int) []byte {
	b := make([]byte, n)
	for i := range b {
		b[i] = byte(r.Uint32())
	}
	return b
}

// frameOf is the document's words.
func frameOf(p []byte) []byte {
	return crc.Seal(slices.Concat(vint.Put(uint64(len(p))), p))
}

func TestWrapNextSize(t *testing.T) {
	if f, e := frame.Wrap(nil); e != api.OK || !bytes.Equal(f, []byte{0, 81, 83, 125, 82}) {
		t.Errorf("%v, %d", f, e)
	}
	r := rand.New(rand.NewPCG(3, 1))
	for _, n := range []int{0, 1, 2, 3, 4, 5, 127, 128, 129, 300, 8191, 8192} {
		p := some(r, n+3)[:n]
		old := bytes.Clone(p[:n+3])
		f, e := frame.Wrap(p)
		if want := frameOf(p); e != api.OK || !bytes.Equal(f, want) || frame.Size(p) != len(want) {
			t.Fatalf("%d bytes: %d, %d", n, e, frame.Size(p))
		}
		for _, tail := range [][]byte{nil, {0}, {255, 255}, f} {
			b := slices.Concat(f, tail)
			back, size, e := frame.Next(b)
			if e != api.OK || size != len(f) || !bytes.Equal(back, p) {
				t.Fatalf("%d bytes: Next: %d, %d", n, size, e)
			}
			for i := range back {
				back[i]++
			}
			back = append(back, 1, 2, 3)
			back[0]++
			if !bytes.Equal(b, slices.Concat(f, tail)) {
				t.Fatal("Next shares its bytes")
			}
		}
		if !bytes.Equal(p[:n+3], old) {
			t.Fatal("Wrap changed its bytes")
		}
	}
}

func TestTooLong(t *testing.T) {
	for _, n := range []int{8193, 20000} {
		p := make([]byte, n)
		if f, e := frame.Wrap(p); e != api.ErrLong || len(f) != 0 {
			t.Errorf("Wrap of %d: %d", n, e)
		}
		if s := frame.Size(p); s != n+vint.Size(uint64(n))+4 {
			t.Errorf("Size of %d: %d", n, s)
		}
		if f, e := frame.All([][]byte{{1}, p}); e != api.ErrLong || len(f) != 0 {
			t.Errorf("All of %d: %d", n, e)
		}
		if q, size, e := frame.Next(frameOf(p)); e != api.ErrLong || size != 0 || len(q) != 0 {
			t.Errorf("Next of %d: %d, %d", n, size, e)
		}
	}
}

func TestNextWrong(t *testing.T) {
	whole := frameOf([]byte("abc"))
	turn := func(at int) []byte { return crc.Turn(whole, at, 1) }
	for i, c := range []struct {
		b []byte
		e api.Errno
	}{
		{nil, api.ErrShort}, {[]byte{0}, api.ErrShort}, {[]byte{0, 81, 83, 125}, api.ErrShort}, {[]byte{128}, api.ErrShort}, {[]byte{128, 0, 1, 2, 3, 4}, api.ErrForm}, {bytes.Repeat([]byte{255}, 10), api.ErrForm},
		{vint.Put(8193), api.ErrLong}, {vint.Put(math.MaxUint64), api.ErrLong}, {vint.Put(1 << 63), api.ErrLong}, {vint.Put(8192), api.ErrShort}, {append(vint.Put(8192), make([]byte, 8195)...), api.ErrShort}, {append(vint.Put(8192), make([]byte, 8196)...), api.ErrSum},
		{whole[:len(whole)-1], api.ErrShort}, {turn(8), api.ErrSum}, {turn(8*len(whole) - 1), api.ErrSum}, {turn(0), api.ErrSum}, {[]byte{0, 0, 0, 0, 0}, api.ErrSum},
	} {
		p, size, e := frame.Next(c.b)
		if e != c.e || size != 0 || len(p) != 0 {
			t.Errorf("case %d: %v, %d, %d", i, p, size, e)
		}
	}
}

func TestAllScan(t *testing.T) {
	if b, e := frame.All(nil); len(b) != 0 || e != api.OK {
		t.Errorf("All of none: %v, %d", b, e)
	}
	if l, n, e := frame.Scan(nil); len(l) != 0 || n != 0 || e != api.OK {
		t.Errorf("Scan of none: %v, %d, %d", l, n, e)
	}
	r := rand.New(rand.NewPCG(3, 2))
	for range 60 {
		var l [][]byte
		var b []byte
		ends := []int{0}
		for range r.IntN(6) {
			l = append(l, some(r, r.IntN(200)*r.IntN(2)))
			b = append(b, frameOf(l[len(l)-1])...)
			ends = append(ends, len(b))
		}
		if got, e := frame.All(l); e != api.OK || !bytes.Equal(got, b) {
			t.Fatalf("All: %v, %d", got, e)
		}
		for cut := range len(b) + 1 {
			whole := 0
			for whole+1 < len(ends) && ends[whole+1] <= cut {
				whole++
			}
			_, _, want := frame.Next(b[ends[whole]:cut])
			if ends[whole] == cut {
				want = api.OK
			}
			got, n, e := frame.Scan(b[:cut])
			if n != ends[whole] || e != want || !slices.EqualFunc(got, l[:whole], bytes.Equal) {
				t.Fatalf("Scan, cut off at %d of %d: %d records, %d, %d", cut, len(b), len(got), n, e)
			}
		}
	}
}

func TestScanSharesNothing(t *testing.T) {
	b, _ := frame.All([][]byte{{1, 2}, {3, 4}, {5}})
	old := bytes.Clone(b)
	l, _, _ := frame.Scan(b)
	for i := range l {
		l[i][0] = 77
		l[i] = append(l[i], 9, 9, 9, 9, 9, 9)
	}
	if !bytes.Equal(b, old) || l[1][1] != 4 || l[2][1] != 9 {
		t.Errorf("%v, %v", b, l)
	}
}

func TestScanStops(t *testing.T) {
	good, _ := frame.All([][]byte{{1, 2}, {3}})
	for i, c := range []struct {
		tail []byte
		e    api.Errno
	}{{[]byte{128, 0}, api.ErrForm}, {vint.Put(8193), api.ErrLong}, {[]byte{1}, api.ErrShort}, {[]byte{0, 0, 0, 0, 0}, api.ErrSum}} {
		l, n, e := frame.Scan(slices.Concat(good, c.tail, good))
		if len(l) != 2 || n != len(good) || e != c.e && c.e != api.ErrShort {
			t.Errorf("case %d: %v, %d, %d", i, l, n, e)
		}
		if l, n, e := frame.Scan(slices.Concat(good, c.tail)); len(l) != 2 || n != len(good) || e != c.e {
			t.Errorf("case %d: %v, %d, %d", i, l, n, e)
		}
	}
}

// TestBursts: a burst in a frame lets no other record be told there.
func TestBursts(t *testing.T) {
	r := rand.New(rand.NewPCG(3, 3))
	for range 40 {
		f := frameOf(some(r, r.IntN(40)))
		for at := range 8 * len(f) {
			b := crc.Turn(f, at, r.Uint32()|1)
			if p, _, e := frame.Next(slices.Concat(b, f)); e == api.OK {
				t.Fatalf("%v is told of %v", p, b)
			}
		}
	}
}
