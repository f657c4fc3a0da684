package vint_test

import (
	"bytes"
	"math"
	"math/rand/v2"
	"slices"
	"testing"

	"packetboat/api"
	"packetboat/vint"
)

// bytesOf is the document's words, written another way: digits by 128.
func bytesOf(n uint64) []byte {
	b := []byte{byte(n % 128)}
	for n /= 128; n > 0; n /= 128 {
		b[len(b)-1] += 128
		b = append(b, byte(n%128))
	}
	return b
}

// numbers are edges of all sizes, and some between.
func numbers() []uint64 {
	l := []uint64{0, 1, 2, 300, math.MaxUint64, math.MaxUint64 - 1}
	for k := range 64 {
		l = append(l, 1<<k-1, 1<<k, 1<<k+1)
	}
	r := rand.New(rand.NewPCG(1, 1))
	for range 500 {
		l = append(l, r.Uint64()>>r.IntN(64))
	}
	return l
}

func TestPutSizeTake(t *testing.T) {
	for _, n := range numbers() {
		want := bytesOf(n)
		if b := vint.Put(n); !bytes.Equal(b, want) {
			t.Fatalf("Put(%d): %v, not %v", n, b, want)
		}
		if s := vint.Size(n); s != len(want) {
			t.Fatalf("Size(%d): %d, not %d", n, s, len(want))
		}
		for _, tail := range [][]byte{nil, {0}, {1}, {127}, {128}, {255, 255}, bytes.Repeat([]byte{0}, 12)} {
			b := slices.Concat(want, tail)
			old := bytes.Clone(b)
			got, size, e := vint.Take(b)
			if got != n || size != len(want) || e != api.OK {
				t.Fatalf("Take(%v): %d, %d, %d", b, got, size, e)
			}
			if !bytes.Equal(b, old) {
				t.Fatalf("Take changed %v", old)
			}
		}
		for cut := range len(want) {
			if got, size, e := vint.Take(want[:cut]); got != 0 || size != 0 || e != api.ErrShort {
				t.Fatalf("Take(%v): %d, %d, %d", want[:cut], got, size, e)
			}
		}
	}
}

func TestTakeWrong(t *testing.T) {
	high := func(n int, x ...byte) []byte { return append(bytes.Repeat([]byte{128}, n), x...) }
	full := func(n int, x ...byte) []byte { return append(bytes.Repeat([]byte{255}, n), x...) }
	for i, c := range []struct {
		b []byte
		e api.Errno
	}{
		{nil, api.ErrShort}, {[]byte{}, api.ErrShort}, {high(1), api.ErrShort}, {high(8), api.ErrShort}, {high(9), api.ErrShort}, {full(9), api.ErrShort},
		{high(10), api.ErrForm}, {full(10), api.ErrForm}, {full(11), api.ErrForm}, {full(10, 1), api.ErrForm}, {high(10, 0), api.ErrForm}, {high(10, 1), api.ErrForm}, {high(30), api.ErrForm},
		{high(1, 0), api.ErrForm}, {high(1, 0, 5), api.ErrForm}, {full(1, 0), api.ErrForm}, {high(8, 0), api.ErrForm}, {high(9, 0), api.ErrForm}, {full(9, 0), api.ErrForm},
		{full(9, 2), api.ErrForm}, {high(9, 2), api.ErrForm}, {full(9, 3), api.ErrForm}, {full(9, 127), api.ErrForm}, {high(9, 2, 7), api.ErrForm},
		{full(9, 1), api.OK}, {high(9, 1), api.OK}, {full(8, 127), api.OK}, {high(8, 1), api.OK}, {[]byte{0, 128}, api.OK},
	} {
		n, size, e := vint.Take(c.b)
		if e != c.e || e != api.OK && (n != 0 || size != 0) {
			t.Errorf("case %d: Take: %d, %d, %d", i, n, size, e)
		}
		m, size, e := vint.TakeSigned(c.b)
		if e != c.e || e != api.OK && (m != 0 || size != 0) {
			t.Errorf("case %d: TakeSigned: %d, %d, %d", i, m, size, e)
		}
	}
}

// TestTakeAllShort goes through all rows of two bytes: what is told has just these bytes.
func TestTakeAllShort(t *testing.T) {
	for x := range 256 {
		for y := range 256 {
			b := []byte{byte(x), byte(y)}
			n, size, e := vint.Take(b)
			switch {
			case x < 128:
				if n != uint64(x) || size != 1 || e != api.OK {
					t.Fatalf("%v: %d, %d, %d", b, n, size, e)
				}
			case y >= 128:
				if e != api.ErrShort {
					t.Fatalf("%v: %d, %d, %d", b, n, size, e)
				}
			case y == 0:
				if e != api.ErrForm {
					t.Fatalf("%v: %d, %d, %d", b, n, size, e)
				}
			case n != uint64(x-128+128*y) || size != 2 || e != api.OK || !bytes.Equal(vint.Put(n), b):
				t.Fatalf("%v: %d, %d, %d", b, n, size, e)
			}
		}
	}
}

func TestSigned(t *testing.T) {
	for i, c := range []struct {
		n    int64
		want uint64
	}{
		{0, 0}, {-1, 1}, {1, 2}, {-2, 3}, {2, 4}, {-3, 5}, {63, 126}, {-64, 127}, {64, 128}, {-65, 129},
		{math.MaxInt64, math.MaxUint64 - 1}, {math.MinInt64, math.MaxUint64}, {math.MinInt64 + 1, math.MaxUint64 - 2},
	} {
		if vint.Zig(c.n) != c.want || vint.Zag(c.want) != c.n {
			t.Errorf("case %d: %d, %d", i, vint.Zig(c.n), vint.Zag(c.want))
		}
	}
	for _, u := range numbers() {
		n := vint.Zag(u)
		if vint.Zig(n) != u {
			t.Fatalf("%d: %d, %d", u, n, vint.Zig(n))
		}
		b := vint.PutSigned(n)
		if !bytes.Equal(b, vint.Put(u)) {
			t.Fatalf("PutSigned(%d): %v", n, b)
		}
		back, size, e := vint.TakeSigned(append(b, 9))
		if back != n || size != len(b) || e != api.OK {
			t.Fatalf("TakeSigned(%v): %d, %d, %d", b, back, size, e)
		}
	}
}

func TestAll(t *testing.T) {
	if b := vint.All(); len(b) != 0 {
		t.Errorf("%v", b)
	}
	l := numbers()
	old := slices.Clone(l)
	var want []byte
	for _, n := range l {
		want = append(want, bytesOf(n)...)
	}
	if b := vint.All(l...); !bytes.Equal(b, want) || !slices.Equal(l, old) {
		t.Errorf("not the bytes of all")
	}
	if b := vint.All(300, 0, 5); !bytes.Equal(b, []byte{172, 2, 0, 5}) {
		t.Errorf("%v", b)
	}
}

// TestNoBeginning: no number's bytes begin another one's.
func TestNoBeginning(t *testing.T) {
	l := numbers()
	for _, n := range l {
		for _, m := range l {
			if n != m && bytes.HasPrefix(vint.Put(n), vint.Put(m)) {
				t.Fatalf("%d begins with %d", n, m)
			}
		}
	}
}
