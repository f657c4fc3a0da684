package seg_test

import (
	"bytes"
	"math"
	"math/rand/v2"
	"slices"
	"strconv"
	"testing"

	"packetboat/api"
	"packetboat/crc"
	"packetboat/frame"
	"packetboat/seg"
	"packetboat/txn"
	"packetboat/vint"
)

const top = int64(api.MaxNumber)

// row are transactions of an origin, from a number on.
func row(r *rand.Rand, origin int, from int64, many int) []api.Txn {
	var l []api.Txn
	for i := range int64(many) {
		t := api.Txn{Origin: origin, Seq: from + i, Deps: api.Clock{r.Int64N(50), r.Int64N(50), r.Int64N(50)}}
		t.Deps[origin] = t.Seq - 1
		for range r.IntN(4) {
			t.Writes = append(t.Writes, api.Write{Key: strconv.Itoa(r.IntN(14)), Value: strconv.Itoa(r.IntN(9999))})
		}
		l = append(l, t)
	}
	return l
}

func wrap(p ...byte) []byte {
	b, _ := frame.Wrap(p)
	return b
}

// text is the document's words: the frames of a head and of transactions; and where each one ends.
func text(h seg.Head, l []api.Txn) ([]byte, []int) {
	b := wrap(vint.All(uint64(h.Origin), uint64(h.Place), uint64(h.First))...)
	ends := []int{0, len(b)}
	c := txn.New()
	for _, t := range l {
		p, _ := c.Put(t)
		b = append(b, wrap(p...)...)
		ends = append(ends, len(b))
	}
	return b, ends
}

func same(a, b []api.Txn) bool { return slices.EqualFunc(a, b, txn.Same) }

func TestCheckNew(t *testing.T) {
	for i, c := range []struct {
		h seg.Head
		e api.Errno
	}{
		{seg.Head{Origin: 0, Place: 0, First: 1}, api.OK}, {seg.Head{Origin: 2, Place: top, First: top}, api.OK}, {seg.Head{Origin: 1, Place: 0, First: 1}, api.OK},
		{seg.Head{Origin: -1, Place: -1, First: 0}, api.ErrName}, {seg.Head{Origin: 3, Place: 0, First: 1}, api.ErrName}, {seg.Head{Origin: math.MaxInt, First: 1}, api.ErrName},
		{seg.Head{Place: -1, First: 1}, api.ErrArg}, {seg.Head{Place: top + 1, First: 1}, api.ErrArg}, {seg.Head{Place: math.MinInt64, First: 1}, api.ErrArg}, {seg.Head{First: 0}, api.ErrArg}, {seg.Head{First: -1}, api.ErrArg}, {seg.Head{First: top + 1}, api.ErrArg},
	} {
		if e := seg.Check(c.h); e != c.e {
			t.Errorf("case %d: %d", i, e)
		}
		w, b, e := seg.New(c.h)
		if e != c.e || (w == nil) != (e != api.OK) {
			t.Errorf("case %d: New: %d", i, e)
		}
		if want, _ := text(c.h, nil); e == api.OK && (!bytes.Equal(b, want) || w.Next() != c.h.First) || e != api.OK && len(b) != 0 {
			t.Errorf("case %d: New: %v", i, b)
		}
		if w := seg.Goes(c.h, nil); (w == nil) != (c.e != api.OK) {
			t.Errorf("case %d: Goes", i)
		}
	}
	if _, b, _ := seg.New(seg.Head{Origin: 1, First: 1}); !bytes.Equal(b[:4], []byte{3, 1, 0, 1}) || len(b) != 8 {
		t.Errorf("%v", b)
	}
}

func TestPutReadGoes(t *testing.T) {
	r := rand.New(rand.NewPCG(9, 1))
	for range 30 {
		h := seg.Head{Origin: r.IntN(3), Place: r.Int64N(1000), First: 1 + r.Int64N(500)}
		l := row(r, h.Origin, h.First, r.IntN(14))
		want, ends := text(h, l)
		w, b, _ := seg.New(h)
		for i, x := range l {
			f, e := w.Put(x)
			if e != api.OK || w.Next() != x.Seq+1 {
				t.Fatalf("Put: %d, %d", e, w.Next())
			}
			b = append(b, f...)
			for _, y := range []*seg.Writer{w.Copy(), seg.Goes(h, l[:i+1])} {
				if y == nil || y.Next() != w.Next() {
					t.Fatal("who goes on isn't as it")
				}
				var rest []byte
				for _, x := range l[i+1:] {
					f, _ := y.Put(x)
					rest = append(rest, f...)
				}
				if !bytes.Equal(rest, want[ends[i+2]:]) {
					t.Fatal("who goes on writes otherwise")
				}
			}
		}
		if !bytes.Equal(b, want) {
			t.Fatal("Put writes otherwise")
		}
		for cut := range len(b) + 1 {
			whole := 0
			for whole+1 < len(ends) && ends[whole+1] <= cut {
				whole++
			}
			wantH, wantL, wantE := h, l[:max(whole-1, 0)], api.ErrShort
			if whole == 0 {
				wantH = seg.Head{}
			} else if ends[whole] == cut {
				wantE = api.OK
			}
			got, txns, n, e := seg.Read(b[:cut])
			if got != wantH || !same(txns, wantL) || n != ends[whole] || e != wantE {
				t.Fatalf("Read, cut off at %d: %v, %v, %d, %d", cut, got, txns, n, e)
			}
		}
	}
}

func TestPutWrong(t *testing.T) {
	r := rand.New(rand.NewPCG(9, 2))
	h := seg.Head{Origin: 1, Place: 7, First: 4}
	l := row(r, 1, 4, 6)
	want, ends := text(h, l)
	w, _, _ := seg.New(h)
	for i, x := range l {
		odd := x
		odd.Writes = make([]api.Write, 17)
		for j, c := range []struct {
			t api.Txn
			e api.Errno
		}{
			{api.Txn{Origin: 3}, api.ErrName}, {api.Txn{Origin: 1}, api.ErrArg}, {odd, api.ErrLong}, {api.Txn{Origin: 1, Seq: x.Seq}, api.ErrDeps}, {row(r, 1, x.Seq+1, 1)[0], api.ErrGap}, {row(r, 1, x.Seq-1, 1)[0], api.ErrGap}, {row(r, 0, x.Seq, 1)[0], api.ErrGap}, {row(r, 2, x.Seq, 1)[0], api.ErrGap},
		} {
			if f, e := w.Put(c.t); e != c.e || len(f) != 0 || w.Next() != x.Seq {
				t.Fatalf("%d, case %d: %v, %d, %d", i, j, f, e, w.Next())
			}
			if seg.Goes(h, append(slices.Clone(l[:i]), c.t)) != nil {
				t.Fatalf("%d, case %d: Goes", i, j)
			}
		}
		if f, e := w.Put(x); e != api.OK || !bytes.Equal(f, want[ends[i+1]:ends[i+2]]) {
			t.Fatalf("behind errors: %v, %d", f, e)
		}
	}
}

// TestKeepsNothing: what was put may be changed behind it.
func TestKeepsNothing(t *testing.T) {
	h := seg.Head{First: 1}
	x := api.Txn{Seq: 1, Writes: []api.Write{{Key: "a", Value: "1"}}}
	w, _, _ := seg.New(h)
	_, _ = w.Put(x)
	x.Writes[0].Key = "b"
	y := api.Txn{Seq: 2, Deps: api.Clock{1}, Writes: []api.Write{{Key: "a"}, {Key: "b"}}}
	c := w.Copy()
	first, _ := w.Put(y)
	second, _ := c.Put(y)
	if !bytes.Equal(first, second) {
		t.Errorf("%v, %v", first, second)
	}
}

func TestCopyIsItsOwn(t *testing.T) {
	r := rand.New(rand.NewPCG(9, 3))
	l := row(r, 0, 1, 12)
	h := seg.Head{First: 1}
	want, ends := text(h, l)
	w := seg.Goes(h, l[:3])
	c := w.Copy()
	for _, x := range row(r, 0, 4, 8) {
		_, _ = c.Put(x)
	}
	if w.Next() != 4 || c.Next() != 12 {
		t.Fatalf("%d, %d", w.Next(), c.Next())
	}
	for i, x := range l[3:] {
		if f, e := w.Put(x); e != api.OK || !bytes.Equal(f, want[ends[i+4]:ends[i+5]]) {
			t.Fatalf("%v, %d", f, e)
		}
	}
}

func TestReadWrong(t *testing.T) {
	big := vint.Put(uint64(top) + 1)
	good, _ := text(seg.Head{Origin: 1, Place: 0, First: 1}, nil)
	for i, c := range []struct {
		b []byte
		e api.Errno
	}{
		{nil, api.ErrShort}, {[]byte{128, 0}, api.ErrForm}, {vint.Put(9000), api.ErrLong}, {good[:7], api.ErrShort}, {crc.Turn(good, 9, 1), api.ErrSum},
		{wrap(), api.ErrShort}, {wrap(1), api.ErrShort}, {wrap(1, 0), api.ErrShort}, {wrap(1, 0, 128), api.ErrShort}, {wrap(128, 0), api.ErrForm}, {wrap(1, 128, 0, 1), api.ErrForm}, {wrap(1, 0, 128, 0), api.ErrForm},
		{wrap(big...), api.ErrArg}, {wrap(append([]byte{3}, big...)...), api.ErrArg}, {wrap(append([]byte{1, 0}, big...)...), api.ErrArg}, {wrap(append(big, 128, 0)...), api.ErrArg}, {wrap(vint.All(math.MaxUint64, 0, 1)...), api.ErrArg},
		{wrap(1, 0, 1, 0), api.ErrForm}, {wrap(3, 0, 1, 0), api.ErrForm}, {wrap(1, 0, 0, 5), api.ErrForm}, {wrap(3, 0, 1), api.ErrName}, {wrap(3, 0, 0), api.ErrName}, {wrap(vint.All(uint64(top), 0, 1)...), api.ErrName}, {wrap(1, 0, 0), api.ErrArg},
	} {
		h, l, n, e := seg.Read(c.b)
		if h != (seg.Head{}) || len(l) != 0 || n != 0 || e != c.e {
			t.Errorf("case %d: %v, %v, %d, %d", i, h, l, n, e)
		}
	}
}

func TestReadStops(t *testing.T) {
	r := rand.New(rand.NewPCG(9, 4))
	h := seg.Head{Origin: 1, Place: 3, First: 2}
	l := row(r, 1, 2, 2)
	l[0].Deps, l[1].Deps = api.Clock{0, 1, 0}, api.Clock{0, 2, 0}
	b, _ := text(h, l)
	next := []byte{1, 4, 0, 2, 0, 0}
	after := slices.Concat(b, wrap(next...))
	if _, l, n, e := seg.Read(after); len(l) != 3 || n != len(after) || e != api.OK {
		t.Fatalf("%v, %d, %d", l, n, e)
	}
	for i, c := range []struct {
		tail []byte
		e    api.Errno
	}{
		{[]byte{128, 0}, api.ErrForm}, {vint.Put(9000), api.ErrLong}, {wrap(next...)[:5], api.ErrShort}, {crc.Turn(wrap(next...), 10, 7), api.ErrSum}, {wrap(), api.ErrShort}, {wrap(next[:5]...), api.ErrShort}, {wrap(append(next, 0)...), api.ErrForm}, {wrap(append([]byte{1, 5, 0, 4, 0, 0}, 0)...), api.ErrForm},
		{wrap(1, 5, 0, 4, 0, 0), api.ErrGap}, {wrap(1, 3, 0, 0, 0, 0), api.ErrGap}, {wrap(0, 1, 0, 0, 0, 0), api.ErrGap}, {wrap(2, 4, 0, 0, 6, 0), api.ErrGap}, {wrap(1, 4, 0, 4, 0, 0), api.ErrDeps}, {wrap(3, 4, 0, 0, 0, 0), api.ErrName}, {wrap(1, 0, 0, 0, 0, 0), api.ErrArg}, {wrap(1, 4, 0, 2, 0, 17), api.ErrLong},
	} {
		for _, behind := range [][]byte{nil, wrap(next...)} {
			got, txns, n, e := seg.Read(slices.Concat(b, c.tail, behind))
			if got != h || !same(txns, l) || n != len(b) || e != c.e && !(i == 2 && behind != nil) {
				t.Errorf("case %d: %v, %v, %d, %d", i, got, txns, n, e)
			}
		}
	}
}

func TestLastNumber(t *testing.T) {
	w, _, _ := seg.New(seg.Head{Origin: 2, Place: top, First: top})
	x := api.Txn{Origin: 2, Seq: top, Deps: api.Clock{0, 0, top - 1}}
	if _, e := w.Put(x); e != api.OK || w.Next() != top+1 {
		t.Errorf("%d, %d", e, w.Next())
	}
	x.Seq, x.Deps[2] = top+1, top
	if _, e := w.Put(x); e != api.ErrArg {
		t.Errorf("%d", e)
	}
}
