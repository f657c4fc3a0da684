package txn_test

import (
	"bytes"
	"math"
	"math/rand/v2"
	"reflect"
	"slices"
	"strconv"
	"strings"
	"testing"

	"packetboat/api"
	"packetboat/clock"
	"packetboat/dict"
	"packetboat/txn"
	"packetboat/vint"
)

const top = int64(api.MaxNumber)

// teller is the document's words: a transaction's bytes, by a clock and a dictionary.
type teller struct {
	clock api.Clock
	keys  *dict.Dict
}

func (x *teller) put(t api.Txn) []byte {
	deps, _ := clock.Put(x.clock, t.Deps)
	b := slices.Concat(vint.Put(uint64(t.Origin)), vint.Put(uint64(t.Seq)), deps, vint.Put(uint64(len(t.Writes))))
	for _, w := range t.Writes {
		key, _ := x.keys.Put(w.Key)
		b = append(b, key...)
		if w.Gone {
			b = append(b, 0)
		} else {
			b = append(append(b, vint.Put(uint64(len(w.Value))+1)...), w.Value...)
		}
	}
	x.clock = t.Deps
	return b
}

func random(r *rand.Rand) api.Txn {
	t := api.Txn{Origin: r.IntN(api.Origins)}
	for i := range t.Deps {
		t.Deps[i] = r.Int64N(1 << 62 >> r.IntN(62))
	}
	t.Seq = t.Deps[t.Origin] + 1
	if t.Seq > top {
		t.Seq, t.Deps[t.Origin] = 1, 0
	}
	for range r.IntN(5) * r.IntN(5) {
		w := api.Write{Key: strings.Repeat("k", r.IntN(2)*60) + strconv.Itoa(r.IntN(12)), Gone: r.IntN(3) == 0}
		if !w.Gone {
			w.Value = strings.Repeat("v", r.IntN(3)*r.IntN(129))
		}
		t.Writes = append(t.Writes, w)
	}
	return t
}

func clone(t api.Txn) api.Txn {
	t.Writes = slices.Clone(t.Writes)
	return t
}

// equal is another way to hold transactions against each other.
func equal(a, b api.Txn) bool {
	if len(a.Writes)+len(b.Writes) == 0 {
		a.Writes, b.Writes = nil, nil
	}
	return reflect.DeepEqual(a, b)
}

func TestExample(t *testing.T) {
	c := txn.New()
	for i, x := range []struct {
		t    api.Txn
		want []byte
	}{
		{api.Txn{Origin: 1, Seq: 1, Writes: []api.Write{{Key: "a", Value: "x"}}}, []byte{1, 1, 0, 0, 0, 1, 0, 1, 97, 2, 120}},
		{api.Txn{Origin: 1, Seq: 2, Deps: api.Clock{0, 1, 0}, Writes: []api.Write{{Key: "a", Gone: true}}}, []byte{1, 2, 0, 2, 0, 1, 1, 0}},
	} {
		b, e := c.Put(x.t)
		if e != api.OK || !bytes.Equal(b, x.want) || c.Clock() != x.t.Deps {
			t.Errorf("case %d: %v, %d, %v", i, b, e, c.Clock())
		}
	}
}

// wrong are transactions that may not be, and why.
func wrong() []struct {
	t api.Txn
	e api.Errno
} {
	long := []api.Write{{Key: strings.Repeat("k", 65)}}
	odd := []api.Write{{Key: "a"}, {Key: "b", Value: "x", Gone: true}}
	return []struct {
		t api.Txn
		e api.Errno
	}{
		{api.Txn{Origin: -1, Seq: 0, Deps: api.Clock{-1}}, api.ErrName},
		{api.Txn{Origin: 3, Seq: 1}, api.ErrName},
		{api.Txn{Origin: math.MaxInt, Seq: 1, Writes: long}, api.ErrName},
		{api.Txn{Origin: math.MinInt, Seq: 1}, api.ErrName},
		{api.Txn{Seq: 0, Writes: long}, api.ErrArg},
		{api.Txn{Seq: -1, Deps: api.Clock{-2}}, api.ErrArg},
		{api.Txn{Seq: 0, Deps: api.Clock{-1}}, api.ErrArg},
		{api.Txn{Seq: top + 1, Deps: api.Clock{top}}, api.ErrArg},
		{api.Txn{Seq: math.MaxInt64, Deps: api.Clock{top}}, api.ErrArg},
		{api.Txn{Seq: math.MinInt64}, api.ErrArg},
		{api.Txn{Seq: 1, Deps: api.Clock{0, -1, 0}}, api.ErrArg},
		{api.Txn{Seq: 1, Deps: api.Clock{0, 0, top + 1}}, api.ErrArg},
		{api.Txn{Seq: 2, Deps: api.Clock{0, 0, top + 1}}, api.ErrArg},
		{api.Txn{Seq: 2, Writes: long}, api.ErrDeps},
		{api.Txn{Seq: 1, Deps: api.Clock{1, 0, 0}}, api.ErrDeps},
		{api.Txn{Seq: 3, Deps: api.Clock{3, 2, 2}}, api.ErrDeps},
		{api.Txn{Origin: 2, Seq: 3, Deps: api.Clock{2, 2, 0}}, api.ErrDeps},
		{api.Txn{Seq: 1, Writes: long}, api.ErrLong},
		{api.Txn{Seq: 1, Writes: append(slices.Clone(odd), long...)}, api.ErrLong},
		{api.Txn{Seq: 1, Writes: []api.Write{{Value: strings.Repeat("v", 257)}}}, api.ErrLong},
		{api.Txn{Seq: 1, Writes: []api.Write{{Value: strings.Repeat("v", 257), Gone: true}}}, api.ErrLong},
		{api.Txn{Seq: 1, Writes: make([]api.Write, 17)}, api.ErrLong},
		{api.Txn{Seq: 1, Writes: odd}, api.ErrForm},
	}
}

func TestCheck(t *testing.T) {
	for i, c := range wrong() {
		old := clone(c.t)
		if e := txn.Check(c.t); e != c.e {
			t.Errorf("case %d: %d, not %d", i, e, c.e)
		}
		coder := txn.New()
		_, _ = coder.Put(api.Txn{Origin: 2, Seq: 5, Deps: api.Clock{7, 8, 4}, Writes: []api.Write{{Key: "zz", Value: "1"}}})
		if b, e := coder.Put(c.t); e != c.e || len(b) != 0 {
			t.Errorf("case %d: Put: %v, %d", i, b, e)
		}
		if coder.Clock() != (api.Clock{7, 8, 4}) || !slices.Equal(coder.Keys(), []string{"zz"}) {
			t.Errorf("case %d: Put changed the coder", i)
		}
		if !equal(old, c.t) {
			t.Errorf("case %d: changed", i)
		}
	}
	full := make([]api.Write, 16)
	for i := range full {
		full[i] = api.Write{Key: strings.Repeat("k", 62) + strconv.Itoa(10+i), Value: strings.Repeat("v", 256)}
	}
	for i, x := range []api.Txn{
		{Seq: 1}, {Origin: 2, Seq: 1}, {Seq: top, Deps: api.Clock{top - 1, top, top}}, {Seq: 1, Writes: full}, {Seq: 1, Writes: []api.Write{{Gone: true}}}, {Seq: 1, Writes: []api.Write{{}, {}}}, {Origin: 1, Seq: 4, Deps: api.Clock{9, 3, 0}},
	} {
		if e := txn.Check(x); e != api.OK {
			t.Errorf("good %d: %d", i, e)
		}
		b, e := txn.New().Put(x)
		back, size, f := txn.New().Take(b)
		if e != api.OK || f != api.OK || size != len(b) || !equal(back, x) {
			t.Errorf("good %d: %d, %d, %d", i, e, f, size)
		}
	}
}

func TestStreams(t *testing.T) {
	r := rand.New(rand.NewPCG(6, 1))
	for range 60 {
		from, to, again := txn.New(), txn.New(), txn.New()
		want := &teller{keys: dict.New()}
		for range 40 {
			x := random(r)
			old := clone(x)
			text := want.put(x)
			b, e := from.Put(x)
			if e != api.OK || !bytes.Equal(b, text) || !equal(x, old) {
				t.Fatalf("Put(%v): %v, %d", x, b, e)
			}
			got, size, e := to.Take(append(b, 1, 2, 3))
			if e != api.OK || size != len(text) || !equal(got, x) || !txn.Same(got, x) {
				t.Fatalf("Take: %v, %d, %d", got, size, e)
			}
			if from.Clock() != x.Deps || to.Clock() != x.Deps || !slices.Equal(to.Keys(), want.keys.Keys()) || !slices.Equal(from.Keys(), want.keys.Keys()) {
				t.Fatalf("the coders aren't as they should be")
			}
			if b, _ := again.Put(got); !bytes.Equal(b, text) {
				t.Fatalf("told again: %v", b)
			}
			if r.IntN(20) == 0 {
				from.Reset()
				to.Reset()
				again.Reset()
				want = &teller{keys: dict.New()}
				if from.Clock() != (api.Clock{}) || len(from.Keys()) != 0 {
					t.Fatal("Reset")
				}
			}
		}
	}
}

// TestCut: what is cut off is too short, whereever, and leaves the coder as it was.
func TestCut(t *testing.T) {
	r := rand.New(rand.NewPCG(6, 2))
	for range 30 {
		from, to := txn.New(), txn.New()
		for range 6 {
			x := random(r)
			b, _ := from.Put(x)
			clockWas, keysWas := to.Clock(), to.Keys()
			for cut := range b {
				got, size, e := to.Take(b[:cut])
				if e != api.ErrShort || size != 0 || !equal(got, api.Txn{}) {
					t.Fatalf("cut off at %d: %v, %d, %d", cut, got, size, e)
				}
				if to.Clock() != clockWas || !slices.Equal(to.Keys(), keysWas) {
					t.Fatalf("cut off at %d: the coder is changed", cut)
				}
			}
			if got, _, e := to.Take(b); e != api.OK || !equal(got, x) {
				t.Fatalf("behind errors: %v, %d", got, e)
			}
		}
	}
}

func TestTakeWrong(t *testing.T) {
	head := []byte{0, 1, 0, 0, 0}
	with := func(l ...byte) []byte { return slices.Concat(head, l) }
	big := vint.Put(uint64(top) + 1)
	value := func(n int, there int) []byte {
		return slices.Concat(head, []byte{1, 0, 1, 'a'}, vint.Put(uint64(n)+1), make([]byte, there))
	}
	for i, c := range []struct {
		b []byte
		e api.Errno
	}{
		{nil, api.ErrShort}, {[]byte{128, 0}, api.ErrForm}, {big, api.ErrArg}, {vint.Put(math.MaxUint64), api.ErrArg}, {[]byte{9}, api.ErrShort}, {[]byte{3, 1, 0, 0, 0, 0}, api.ErrName}, {[]byte{9, 0, 0, 0, 0, 0}, api.ErrName},
		{slices.Concat(vint.Put(uint64(top)), []byte{1, 0, 0, 0, 0}), api.ErrName},
		{[]byte{0, 128, 0}, api.ErrForm}, {slices.Concat([]byte{0}, big), api.ErrArg}, {slices.Concat([]byte{0}, big, []byte{1}), api.ErrArg}, {[]byte{0, 0, 0, 0, 0, 0}, api.ErrArg},
		{[]byte{0, 1, 1}, api.ErrForm}, {[]byte{9, 1, 1}, api.ErrForm}, {[]byte{0, 1, 128, 0}, api.ErrForm}, {[]byte{0, 2, 0, 0, 0, 0}, api.ErrDeps}, {[]byte{0, 2, 2, 0, 0, 0}, api.OK}, {[]byte{0, 1, 2, 0, 0, 0}, api.ErrDeps},
		{with(), api.ErrShort}, {with(17), api.ErrLong}, {slices.Concat(head, vint.Put(math.MaxUint64)), api.ErrLong}, {with(16), api.ErrShort}, {with(128, 0), api.ErrForm},
		{with(1, 1), api.ErrName}, {with(1, 0, 65), api.ErrLong}, {with(1, 0, 1), api.ErrShort}, {with(2, 0, 1, 'a', 0, 0, 1, 'a', 0), api.ErrForm}, {with(2, 0, 1, 'a', 0, 1, 0), api.OK}, {with(1, 128, 0), api.ErrForm},
		{with(1, 0, 1, 'a'), api.ErrShort}, {with(1, 0, 1, 'a', 128, 0), api.ErrForm}, {with(1, 0, 1, 'a', 2), api.ErrShort}, {with(1, 0, 1, 'a', 1), api.OK},
		{value(257, 300), api.ErrLong}, {value(257, 0), api.ErrLong}, {value(256, 255), api.ErrShort}, {value(256, 256), api.OK}, {slices.Concat(with(1, 0, 1, 'a'), vint.Put(math.MaxUint64)), api.ErrLong}, {slices.Concat(with(1, 0, 1, 'a'), vint.Put(1<<63)), api.ErrLong},
		{[]byte{3, 0, 0, 0, 0, 1, 0, 1, 'a', 2}, api.ErrShort},
	} {
		coder := txn.New()
		got, size, e := coder.Take(c.b)
		if e != c.e || e != api.OK && (size != 0 || !equal(got, api.Txn{}) || coder.Clock() != api.Clock{} || len(coder.Keys()) != 0) {
			t.Errorf("case %d: %v, %d, %d, not %d", i, got, size, e, c.e)
		}
	}
}

// TestTakeKeepsCoder: an error told at last (Check's) leaves a coder that knows some as it was.
func TestTakeKeepsCoder(t *testing.T) {
	c := txn.New()
	_, _ = c.Put(api.Txn{Seq: 3, Deps: api.Clock{2, 5, 0}, Writes: []api.Write{{Key: "a"}}})
	b := []byte{0, 9, 0, 0, 2, 1, 0, 1, 'b', 0}
	if _, _, e := c.Take(b); e != api.ErrDeps || c.Clock() != (api.Clock{2, 5, 0}) || !slices.Equal(c.Keys(), []string{"a"}) {
		t.Errorf("%d, %v, %q", e, c.Clock(), c.Keys())
	}
	b[1] = 3
	if x, size, e := c.Take(b); e != api.OK || size != len(b) || x.Deps != (api.Clock{2, 5, 1}) || c.Clock() != x.Deps || c.At("b") != 1 {
		t.Errorf("%v, %d, %d", x, size, e)
	}
}

func TestSame(t *testing.T) {
	a := api.Txn{Origin: 1, Seq: 2, Deps: api.Clock{3, 1, 5}, Writes: []api.Write{{Key: "a", Value: "x"}, {Key: "b", Gone: true}}}
	if !txn.Same(a, clone(a)) || !txn.Same(api.Txn{}, api.Txn{Writes: []api.Write{}}) || !txn.Same(api.Txn{Origin: -4}, api.Txn{Origin: -4}) {
		t.Error("the same aren't")
	}
	for i, change := range []func(*api.Txn){
		func(x *api.Txn) { x.Origin = 0 }, func(x *api.Txn) { x.Seq = 3 }, func(x *api.Txn) { x.Deps[0]++ }, func(x *api.Txn) { x.Deps[1]++ }, func(x *api.Txn) { x.Deps[2]++ },
		func(x *api.Txn) { x.Writes = nil }, func(x *api.Txn) { x.Writes = x.Writes[:1] }, func(x *api.Txn) { x.Writes = append(x.Writes, api.Write{}) },
		func(x *api.Txn) { x.Writes[0].Key = "c" }, func(x *api.Txn) { x.Writes[0].Value = "y" }, func(x *api.Txn) { x.Writes[1].Gone = false }, func(x *api.Txn) { slices.Reverse(x.Writes) },
	} {
		b := clone(a)
		change(&b)
		if txn.Same(a, b) || txn.Same(b, a) {
			t.Errorf("case %d: same", i)
		}
	}
}
