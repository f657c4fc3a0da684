package epoch_test

import (
	"bytes"
	"math"
	"math/rand/v2"
	"slices"
	"strconv"
	"testing"

	"packetboat/api"
	"packetboat/epoch"
	"packetboat/txn"
	"packetboat/vint"
)

func random(r *rand.Rand) api.Txn {
	t := api.Txn{Origin: r.IntN(3), Deps: api.Clock{r.Int64N(300), r.Int64N(300), r.Int64N(300)}}
	t.Seq = t.Deps[t.Origin] + 1
	for range r.IntN(4) {
		t.Writes = append(t.Writes, api.Write{Key: strconv.Itoa(r.IntN(12)), Value: strconv.Itoa(r.IntN(1000))})
	}
	return t
}

// row are transactions of an origin, from a number on.
func row(origin int, from int64, many int) []api.Txn {
	var l []api.Txn
	for i := range int64(many) {
		t := api.Txn{Origin: origin, Seq: from + i, Writes: []api.Write{{Key: "a", Value: "x"}}}
		t.Deps[origin] = t.Seq - 1
		l = append(l, t)
	}
	return l
}

func sameItems(a, b []epoch.Item) bool {
	return slices.EqualFunc(a, b, func(x, y epoch.Item) bool { return x.Reset == y.Reset && txn.Same(x.T, y.T) })
}

func TestStreams(t *testing.T) {
	if b, e := epoch.Put(nil); len(b) != 0 || e != api.OK {
		t.Errorf("Put of none: %v, %d", b, e)
	}
	if l, n, e := epoch.Take(nil); len(l) != 0 || n != 0 || e != api.OK {
		t.Errorf("Take of none: %v, %d, %d", l, n, e)
	}
	r := rand.New(rand.NewPCG(7, 1))
	for range 100 {
		var l []epoch.Item
		var want []byte
		ends := []int{0}
		coder := txn.New()
		for range r.IntN(9) {
			x := epoch.Item{Reset: r.IntN(3) == 0, T: random(r)}
			l = append(l, x)
			first := byte(1)
			if x.Reset {
				first = 0
				coder.Reset()
			}
			p, _ := coder.Put(x.T)
			want = slices.Concat(want, []byte{first}, p)
			ends = append(ends, len(want))
		}
		if b, e := epoch.Put(l); e != api.OK || !bytes.Equal(b, want) {
			t.Fatalf("Put: %v, %d", b, e)
		}
		for cut := range len(want) + 1 {
			whole := 0
			for whole+1 < len(ends) && ends[whole+1] <= cut {
				whole++
			}
			wantE := api.ErrShort
			if ends[whole] == cut {
				wantE = api.OK
			}
			got, n, e := epoch.Take(want[:cut])
			if e != wantE || n != ends[whole] || !sameItems(got, l[:whole]) {
				t.Fatalf("Take, cut off at %d of %v: %v, %d, %d", cut, want, got, n, e)
			}
		}
	}
}

func TestStreamsWrong(t *testing.T) {
	good := []epoch.Item{{T: row(1, 1, 1)[0]}, {Reset: true, T: row(1, 2, 1)[0]}}
	b, _ := epoch.Put(good)
	for i, c := range []struct {
		tail []byte
		e    api.Errno
	}{
		{[]byte{2}, api.ErrForm}, {[]byte{255, 0, 1, 0, 0, 0, 0}, api.ErrForm}, {[]byte{0}, api.ErrShort}, {[]byte{1}, api.ErrShort}, {[]byte{1, 7, 1, 0, 0, 0, 0}, api.ErrName}, {[]byte{0, 7, 1, 0, 0, 0, 0}, api.ErrName},
		{[]byte{0, 0, 1, 0, 0, 0, 0}, api.OK}, {[]byte{1, 1, 3, 0, 2, 0, 1, 1, 0}, api.OK}, {[]byte{0, 1, 3, 0, 4, 0, 1, 1, 0}, api.ErrName}, {[]byte{1, 1, 3, 0, 2, 0, 1, 0, 1, 'a', 0}, api.ErrForm},
	} {
		l, n, e := epoch.Take(slices.Concat(b, c.tail))
		if e != c.e || e != api.OK && (n != len(b) || !sameItems(l, good)) || e == api.OK && (n != len(b)+len(c.tail) || len(l) != 3) {
			t.Errorf("case %d: %v, %d, %d", i, l, n, e)
		}
	}
	for i, c := range []struct {
		l []epoch.Item
		e api.Errno
	}{
		{[]epoch.Item{good[0], {T: api.Txn{Origin: 3}}, {T: api.Txn{}}}, api.ErrName}, {[]epoch.Item{{T: api.Txn{}}, {T: api.Txn{Origin: 3}}}, api.ErrArg}, {[]epoch.Item{good[0], good[1], {T: api.Txn{Seq: 2}}}, api.ErrDeps},
	} {
		if b, e := epoch.Put(c.l); e != c.e || len(b) != 0 {
			t.Errorf("Put, case %d: %v, %d", i, b, e)
		}
	}
}

func TestBatches(t *testing.T) {
	l := row(1, 1, 2)
	l[1].Writes = []api.Write{{Key: "a", Gone: true}}
	if b, e := epoch.Pack(l); e != api.OK || !bytes.Equal(b, []byte{2, 1, 1, 0, 0, 0, 1, 0, 1, 97, 2, 120, 1, 2, 0, 2, 0, 1, 1, 0}) {
		t.Errorf("%v, %d", b, e)
	}
	if b, e := epoch.Pack(nil); e != api.OK || !bytes.Equal(b, []byte{0}) {
		t.Errorf("Pack of none: %v, %d", b, e)
	}
	r := rand.New(rand.NewPCG(7, 2))
	for n := range 5 {
		for range 30 {
			var l []api.Txn
			want := vint.Put(uint64(n))
			coder := txn.New()
			for range n {
				l = append(l, random(r))
				p, _ := coder.Put(l[len(l)-1])
				want = append(want, p...)
			}
			b, e := epoch.Pack(l)
			if e != api.OK || !bytes.Equal(b, want) {
				t.Fatalf("Pack: %v, %d", b, e)
			}
			back, e := epoch.Unpack(b)
			if e != api.OK || !slices.EqualFunc(back, l, txn.Same) {
				t.Fatalf("Unpack: %v, %d", back, e)
			}
			for cut := range b {
				if back, e := epoch.Unpack(b[:cut]); e != api.ErrShort || len(back) != 0 {
					t.Fatalf("Unpack, cut off at %d: %v, %d", cut, back, e)
				}
			}
			if back, e := epoch.Unpack(append(b, 0)); e != api.ErrForm || len(back) != 0 {
				t.Fatalf("Unpack with more behind: %v, %d", back, e)
			}
		}
	}
}

func TestBatchesWrong(t *testing.T) {
	for i, c := range []struct {
		l []api.Txn
		e api.Errno
	}{
		{row(0, 1, 5), api.ErrLong}, {make([]api.Txn, 5), api.ErrLong}, {row(0, 1, 4), api.OK}, {append(row(0, 1, 2), api.Txn{}, api.Txn{Origin: 3}), api.ErrArg}, {append(row(0, 1, 1), api.Txn{Origin: 3}, api.Txn{}), api.ErrName},
	} {
		if b, e := epoch.Pack(c.l); e != c.e || e != api.OK && len(b) != 0 {
			t.Errorf("Pack, case %d: %v, %d", i, b, e)
		}
	}
	one := []byte{0, 1, 0, 0, 0, 0}
	two := []byte{0, 2, 2, 0, 0, 0}
	for i, c := range []struct {
		b []byte
		e api.Errno
	}{
		{nil, api.ErrShort}, {[]byte{128, 0}, api.ErrForm}, {[]byte{5}, api.ErrLong}, {vint.Put(math.MaxUint64), api.ErrLong}, {vint.Put(1 << 63), api.ErrLong}, {[]byte{4}, api.ErrShort}, {slices.Concat([]byte{1}, one), api.OK}, {slices.Concat([]byte{2}, one, two), api.OK},
		{slices.Concat([]byte{1}, one, two), api.ErrForm}, {slices.Concat([]byte{2}, one, []byte{3, 1, 0, 0, 0, 0}), api.ErrName}, {slices.Concat([]byte{2}, one, []byte{0, 2, 0, 0, 0, 0, 9}), api.ErrDeps}, {slices.Concat([]byte{3}, one, two), api.ErrShort}, {[]byte{0, 0}, api.ErrForm}, {[]byte{0}, api.OK},
	} {
		if l, e := epoch.Unpack(c.b); e != c.e || e != api.OK && len(l) != 0 {
			t.Errorf("Unpack, case %d: %v, %d", i, l, e)
		}
	}
}

func TestRow(t *testing.T) {
	for i, c := range []struct {
		l    []api.Txn
		want bool
	}{
		{nil, true}, {[]api.Txn{{Origin: -7, Seq: -9}}, true}, {row(2, 5, 9), true}, {append(row(0, 1, 2), row(1, 3, 1)...), false}, {append(row(1, 1, 2), row(0, 3, 1)...), false}, {append(row(0, 1, 2), row(0, 4, 1)...), false}, {append(row(0, 1, 2), row(0, 2, 1)...), false}, {append(row(0, 2, 2), row(0, 2, 1)...), false},
		{[]api.Txn{{Seq: math.MaxInt64}, {Seq: math.MinInt64}}, false}, {[]api.Txn{{Seq: math.MinInt64}, {Seq: math.MinInt64 + 1}}, true}, {[]api.Txn{{Seq: math.MaxInt64 - 1}, {Seq: math.MaxInt64}}, true}, {[]api.Txn{{Seq: -1}, {Seq: 0}, {Seq: 1}}, true}, {[]api.Txn{{Origin: 9, Seq: 4}, {Origin: 9, Seq: 5}}, true},
		{append(row(0, 5, 2), row(0, 1, 2)...), false},
	} {
		if got := epoch.Row(c.l); got != c.want {
			t.Errorf("case %d: %v", i, got)
		}
	}
}
