package script_test

import (
	"bytes"
	"math"
	"math/rand/v2"
	"reflect"
	"slices"
	"strconv"
	"strings"
	"testing"

	"packetboat/api"
	"packetboat/clock"
	"packetboat/crc"
	"packetboat/frame"
	"packetboat/script"
	"packetboat/vint"
)

const top = int64(api.MaxNumber)

// text is the document's words: an item's bytes.
func text(x script.Item) []byte {
	b := vint.Put(uint64(x.Do))
	number := func(l ...int) {
		for _, n := range l {
			b = append(b, vint.Put(uint64(n))...)
		}
	}
	switch x.Do {
	case 0:
		number(x.Who)
		deps, _ := clock.Put(api.Clock{}, x.Deps)
		b = append(b, deps...)
		number(len(x.Writes))
		for _, w := range x.Writes {
			number(len(w.Key))
			b = append(b, w.Key...)
			if w.Gone {
				number(0)
			} else {
				number(len(w.Value) + 1)
				b = append(b, w.Value...)
			}
		}
	case 1, 2:
		number(x.Who)
	case 3, 4, 5:
		number(x.N)
	case 6:
		number(x.N, x.At, int(x.Mask))
	case 7:
		number(x.Who, len(x.Kept))
		number(x.Kept...)
	case 8:
		number(x.Who, x.N)
	}
	return b
}

func framed(l ...[]byte) []byte {
	b, e := frame.All(l)
	if e != api.OK {
		panic(e)
	}
	return b
}

func good() []script.Item {
	full := make([]api.Write, 16)
	for i := range full {
		full[i] = api.Write{Key: strings.Repeat("k", 64), Value: strings.Repeat("v", 256)}
	}
	const most = 1 << 20
	return []script.Item{
		{}, {Do: script.Commit, Who: 2, Deps: api.Clock{1, top, 300}, Writes: []api.Write{{Key: "a", Value: "x"}, {Key: "", Gone: true}, {Key: "b"}}}, {Do: script.Commit, Who: 1, Writes: full}, {Do: script.Commit, Deps: api.Clock{top, top, top}},
		{Do: script.Sync}, {Do: script.Sync, Who: 2}, {Do: script.Tick}, {Do: script.Tick, Who: 3},
		{Do: script.Deliver}, {Do: script.Deliver, N: most}, {Do: script.Drop, N: 5}, {Do: script.Drop, N: most}, {Do: script.Double, N: 300}, {Do: script.Double, N: most},
		{Do: script.Spoil, N: 2, At: 9, Mask: 1}, {Do: script.Spoil, N: most, At: most, Mask: math.MaxUint32}, {Do: script.Spoil},
		{Do: script.Crash, Who: 3}, {Do: script.Crash, Who: 1, Kept: []int{1}}, {Do: script.Crash, Kept: []int{0, most, 5, 300}}, {Do: script.Fuse, Who: 3, N: most}, {Do: script.Fuse},
	}
}

// equal is another way to hold items against each other.
func equal(a, b script.Item) bool {
	if len(a.Writes)+len(b.Writes) == 0 {
		a.Writes, b.Writes = nil, nil
	}
	if len(a.Kept)+len(b.Kept) == 0 {
		a.Kept, b.Kept = nil, nil
	}
	return reflect.DeepEqual(a, b)
}

func TestKinds(t *testing.T) {
	for i, do := range []int{script.Commit, script.Sync, script.Tick, script.Deliver, script.Drop, script.Double, script.Spoil, script.Crash, script.Fuse} {
		if do != i {
			t.Errorf("%d, not %d", do, i)
		}
	}
}

func TestPutTake(t *testing.T) {
	if b := text(script.Item{Do: script.Spoil, N: 2, At: 9, Mask: 1}); !bytes.Equal(b, []byte{6, 2, 9, 1}) {
		t.Errorf("%v", b)
	}
	var all []byte
	for i, x := range good() {
		if e := script.Check(x); e != api.OK {
			t.Errorf("item %d: Check: %d", i, e)
		}
		want := framed(text(x))
		all = append(all, want...)
		b, e := script.Put([]script.Item{x})
		if e != api.OK || !bytes.Equal(b, want) {
			t.Errorf("item %d: Put: %v, %d, not %v", i, b, e, want)
		}
		l, e := script.Take(want)
		if e != api.OK || len(l) != 1 || !equal(l[0], x) {
			t.Errorf("item %d: Take: %v, %d", i, l, e)
		}
		for cut := range text(x) {
			if l, e := script.Take(framed(text(x)[:cut])); e != api.ErrShort || len(l) != 0 {
				t.Errorf("item %d, cut off at %d: %v, %d", i, cut, l, e)
			}
		}
		if l, e := script.Take(framed(append(text(x), 0))); e != api.ErrForm || len(l) != 0 {
			t.Errorf("item %d, more behind: %v, %d", i, l, e)
		}
	}
	if b, e := script.Put(good()); e != api.OK || !bytes.Equal(b, all) {
		t.Errorf("all: %d", e)
	}
	if l, e := script.Take(all); e != api.OK || !slices.EqualFunc(l, good(), equal) {
		t.Errorf("all: %d", e)
	}
	if b, e := script.Put(nil); e != api.OK || len(b) != 0 {
		t.Errorf("%v, %d", b, e)
	}
	if l, e := script.Take(nil); e != api.OK || len(l) != 0 {
		t.Errorf("%v, %d", l, e)
	}
}

func TestRandom(t *testing.T) {
	r := rand.New(rand.NewPCG(22, 1))
	for range 200 {
		var l []script.Item
		var want []byte
		for range r.IntN(12) {
			x := script.Item{Do: r.IntN(9)}
			if x.Do < 3 || x.Do > 6 {
				x.Who = r.IntN(3)
			}
			if x.Do >= 3 && x.Do != 7 {
				x.N = r.IntN(1 << 20 >> r.IntN(20))
			}
			switch x.Do {
			case 0:
				x.Deps = api.Clock{r.Int64N(1 << 62), r.Int64N(200), 0}
				for range r.IntN(5) {
					w := api.Write{Key: strings.Repeat("k", r.IntN(65)), Gone: r.IntN(2) == 0}
					if !w.Gone {
						w.Value = strings.Repeat(strconv.Itoa(r.IntN(9)), r.IntN(257))
					}
					x.Writes = append(x.Writes, w)
				}
			case 6:
				x.At, x.Mask = r.IntN(2000), r.Uint32()
			case 7:
				for range r.IntN(5) {
					x.Kept = append(x.Kept, r.IntN(1<<20+1))
				}
			}
			l = append(l, x)
			want = append(want, framed(text(x))...)
		}
		b, e := script.Put(l)
		if e != api.OK || !bytes.Equal(b, want) {
			t.Fatalf("Put(%v): %d", l, e)
		}
		back, e := script.Take(b)
		if e != api.OK || !slices.EqualFunc(back, l, equal) || !slices.EqualFunc(back, l, script.Same) {
			t.Fatalf("Take: %v, %d, not %v", back, e, l)
		}
	}
}

func TestCheckWrong(t *testing.T) {
	one := []api.Write{{Key: "a"}}
	for i, c := range []struct {
		x script.Item
		e api.Errno
	}{
		{script.Item{Do: -1}, api.ErrForm}, {script.Item{Do: 9, Who: 7}, api.ErrForm}, {script.Item{Do: math.MaxInt}, api.ErrForm}, {script.Item{Do: math.MinInt, N: -1}, api.ErrForm},
		{script.Item{Do: 0, Who: 3}, api.ErrName}, {script.Item{Do: 0, Who: -1, N: 1}, api.ErrName}, {script.Item{Do: 1, Who: 3}, api.ErrName}, {script.Item{Do: 2, Who: 4}, api.ErrName}, {script.Item{Do: 2, Who: -1}, api.ErrName}, {script.Item{Do: 7, Who: 4}, api.ErrName}, {script.Item{Do: 8, Who: 4, At: 1}, api.ErrName}, {script.Item{Do: 8, Who: math.MaxInt}, api.ErrName}, {script.Item{Do: 0, Who: math.MinInt}, api.ErrName},
		{script.Item{Do: 3, Who: 1}, api.ErrName}, {script.Item{Do: 4, Who: 1, N: -1}, api.ErrName}, {script.Item{Do: 5, Who: -1}, api.ErrName}, {script.Item{Do: 6, Who: 2}, api.ErrName},
		{script.Item{Do: 0, Deps: api.Clock{-1, 0, 0}}, api.ErrArg}, {script.Item{Do: 0, Deps: api.Clock{0, 0, top + 1}}, api.ErrArg}, {script.Item{Do: 0, Writes: make([]api.Write, 17)}, api.ErrArg}, {script.Item{Do: 0, Writes: []api.Write{{Key: strings.Repeat("k", 65)}}}, api.ErrArg}, {script.Item{Do: 0, Writes: []api.Write{{}, {Value: strings.Repeat("v", 257)}}}, api.ErrArg}, {script.Item{Do: 0, Writes: []api.Write{{Value: "x", Gone: true}}}, api.ErrArg},
		{script.Item{Do: 0, N: 1}, api.ErrArg}, {script.Item{Do: 0, At: 1}, api.ErrArg}, {script.Item{Do: 0, Mask: 1}, api.ErrArg}, {script.Item{Do: 0, Kept: []int{0}}, api.ErrArg},
		{script.Item{Do: 1, N: 1}, api.ErrArg}, {script.Item{Do: 1, Deps: api.Clock{0, 1, 0}}, api.ErrArg}, {script.Item{Do: 1, Writes: one}, api.ErrArg}, {script.Item{Do: 1, At: 1}, api.ErrArg}, {script.Item{Do: 1, Mask: 1}, api.ErrArg}, {script.Item{Do: 1, Kept: []int{1}}, api.ErrArg}, {script.Item{Do: 2, N: 1}, api.ErrArg}, {script.Item{Do: 2, At: -1}, api.ErrArg}, {script.Item{Do: 2, Kept: []int{1}}, api.ErrArg},
		{script.Item{Do: 3, N: -1}, api.ErrArg}, {script.Item{Do: 3, N: 1<<20 + 1}, api.ErrArg}, {script.Item{Do: 4, N: 1<<20 + 1}, api.ErrArg}, {script.Item{Do: 5, N: math.MaxInt}, api.ErrArg}, {script.Item{Do: 3, At: 1}, api.ErrArg}, {script.Item{Do: 4, Mask: 1}, api.ErrArg}, {script.Item{Do: 5, Writes: one}, api.ErrArg}, {script.Item{Do: 3, Deps: api.Clock{1, 0, 0}}, api.ErrArg}, {script.Item{Do: 3, Kept: []int{1}}, api.ErrArg}, {script.Item{Do: 4, At: 1}, api.ErrArg}, {script.Item{Do: 5, At: 1}, api.ErrArg},
		{script.Item{Do: 6, N: -1}, api.ErrArg}, {script.Item{Do: 6, N: 1<<20 + 1}, api.ErrArg}, {script.Item{Do: 6, At: -1}, api.ErrArg}, {script.Item{Do: 6, At: 1<<20 + 1}, api.ErrArg}, {script.Item{Do: 6, At: math.MinInt}, api.ErrArg}, {script.Item{Do: 6, Kept: []int{1}}, api.ErrArg}, {script.Item{Do: 6, Writes: one}, api.ErrArg},
		{script.Item{Do: 7, Kept: []int{1, 2, 3, 4, 5}}, api.ErrArg}, {script.Item{Do: 7, Kept: []int{-1}}, api.ErrArg}, {script.Item{Do: 7, Kept: []int{0, 1<<20 + 1}}, api.ErrArg}, {script.Item{Do: 7, N: 1}, api.ErrArg}, {script.Item{Do: 7, At: 1}, api.ErrArg}, {script.Item{Do: 7, Mask: 1}, api.ErrArg}, {script.Item{Do: 7, Deps: api.Clock{0, 0, 1}}, api.ErrArg},
		{script.Item{Do: 8, N: -1}, api.ErrArg}, {script.Item{Do: 8, N: 1<<20 + 1}, api.ErrArg}, {script.Item{Do: 8, At: 1}, api.ErrArg}, {script.Item{Do: 8, Mask: 1}, api.ErrArg}, {script.Item{Do: 8, Kept: []int{1}}, api.ErrArg}, {script.Item{Do: 8, Writes: one}, api.ErrArg},
	} {
		if e := script.Check(c.x); e != c.e {
			t.Errorf("case %d: %d, not %d", i, e, c.e)
		}
		if b, e := script.Put([]script.Item{{}, c.x, {Do: -1}}); e != c.e || len(b) != 0 {
			t.Errorf("case %d: Put: %v, %d", i, b, e)
		}
	}
}

func TestMostItems(t *testing.T) {
	l := make([]script.Item, 300)
	b, e := script.Put(l)
	if e != api.OK {
		t.Fatal(e)
	}
	if back, e := script.Take(b); e != api.OK || len(back) != 300 {
		t.Errorf("%d, %d", len(back), e)
	}
	if b, e := script.Put(append(l, script.Item{Do: -1})); e != api.ErrLong || len(b) != 0 {
		t.Errorf("%d", e)
	}
	more := slices.Concat(framed([]byte{99}), b)
	if back, e := script.Take(more); e != api.ErrLong || len(back) != 0 {
		t.Errorf("%d, %d", len(back), e)
	}
	if back, e := script.Take(more[:len(more)-1]); e != api.ErrShort || len(back) != 0 {
		t.Errorf("%d, %d", len(back), e)
	}
}

func TestTakeWrong(t *testing.T) {
	big := vint.Put(uint64(top) + 1)
	with := func(head []byte, l ...[]byte) []byte { return append(slices.Clone(head), slices.Concat(l...)...) }
	head := []byte{0, 0, 0, 0, 0}
	for i, c := range []struct {
		p []byte
		e api.Errno
	}{
		{nil, api.ErrShort}, {[]byte{128, 0}, api.ErrForm}, {[]byte{9}, api.ErrForm}, {[]byte{9, 0, 0}, api.ErrForm}, {vint.Put(math.MaxUint64), api.ErrForm}, {vint.Put(1 << 63), api.ErrForm},
		{[]byte{0}, api.ErrShort}, {[]byte{0, 128, 0}, api.ErrForm}, {with([]byte{0}, big), api.ErrArg}, {with([]byte{0}, big, []byte{1, 0, 0, 0}), api.ErrArg}, {[]byte{0, 3, 0, 0, 0, 0}, api.ErrName}, {[]byte{0, 3, 1, 0, 0, 0}, api.ErrForm}, {[]byte{0, 0, 128, 0}, api.ErrForm}, {[]byte{0, 0, 0, 1}, api.ErrForm}, {[]byte{0, 0, 0, 0}, api.ErrShort},
		{with(head), api.ErrShort}, {with(head, []byte{17}), api.ErrArg}, {with(head, vint.Put(math.MaxUint64)), api.ErrArg}, {with(head, []byte{128, 0}), api.ErrForm}, {with(head, []byte{16}), api.ErrShort}, {with(head, []byte{0}), api.OK},
		{with(head, []byte{1}), api.ErrShort}, {with(head, []byte{1, 65}), api.ErrArg}, {with(head, []byte{1}, vint.Put(math.MaxUint64)), api.ErrArg}, {with(head, []byte{1, 64}), api.ErrShort}, {with(head, []byte{1, 64}, make([]byte, 63)), api.ErrShort}, {with(head, []byte{1, 1, 'a'}), api.ErrShort}, {with(head, []byte{1, 1, 'a', 0}), api.OK}, {with(head, []byte{1, 1, 'a', 1}), api.OK}, {with(head, []byte{1, 1, 'a', 2}), api.ErrShort}, {with(head, []byte{1, 128, 0}), api.ErrForm},
		{with(head, []byte{1, 0}, vint.Put(258)), api.ErrArg}, {with(head, []byte{1, 0}, vint.Put(258), make([]byte, 257)), api.ErrArg}, {with(head, []byte{1, 0}, vint.Put(257)), api.ErrShort}, {with(head, []byte{1, 0}, vint.Put(257), make([]byte, 255)), api.ErrShort}, {with(head, []byte{1, 0}, vint.Put(257), make([]byte, 256)), api.OK}, {with(head, []byte{1, 0}, vint.Put(math.MaxUint64)), api.ErrArg}, {with(head, []byte{1, 0, 128, 0}), api.ErrForm}, {with(head, []byte{2, 1, 'a', 0, 1, 'a', 0}), api.OK},
		{with(head, []byte{0, 0}), api.ErrForm}, {[]byte{0, 3, 0, 0, 0, 0, 0}, api.ErrForm},
		{[]byte{1}, api.ErrShort}, {[]byte{1, 3}, api.ErrName}, {[]byte{1, 3, 0}, api.ErrForm}, {with([]byte{1}, big), api.ErrArg}, {with([]byte{1}, vint.Put(uint64(top))), api.ErrName}, {[]byte{2, 4}, api.ErrName}, {[]byte{2, 3}, api.OK},
		{[]byte{3}, api.ErrShort}, {with([]byte{3}, big), api.ErrArg}, {with([]byte{4}, vint.Put(1<<20+1)), api.ErrArg}, {with([]byte{5}, vint.Put(1<<20)), api.OK}, {with([]byte{5}, vint.Put(1<<20+1), []byte{0}), api.ErrForm}, {[]byte{4, 128, 0}, api.ErrForm}, {with([]byte{3}, big, []byte{0}), api.ErrArg}, {with([]byte{3}, vint.Put(uint64(top)), []byte{0}), api.ErrForm}, {with([]byte{1}, vint.Put(uint64(top)), []byte{0}), api.ErrForm}, {with([]byte{6, 0}, vint.Put(uint64(top)), []byte{128, 0}), api.ErrForm},
		{[]byte{6, 0, 0}, api.ErrShort}, {with([]byte{6, 0, 0}, vint.Put(1<<32)), api.ErrArg}, {with([]byte{6, 0, 0}, vint.Put(1<<32), []byte{0}), api.ErrArg}, {with([]byte{6, 0, 0}, vint.Put(1<<32-1)), api.OK}, {with([]byte{6, 0}, big, []byte{128, 0}), api.ErrArg}, {with([]byte{6}, vint.Put(1<<20+1), []byte{0, 0}), api.ErrArg}, {with([]byte{6, 0}, vint.Put(1<<20+1), []byte{0}), api.ErrArg}, {with([]byte{6}, vint.Put(1<<20+1), []byte{0, 128, 0}), api.ErrForm},
		{[]byte{7, 0}, api.ErrShort}, {[]byte{7, 0, 5}, api.ErrArg}, {[]byte{7, 0, 4, 1, 1, 1}, api.ErrShort}, {[]byte{7, 3, 4, 1, 1, 1, 0}, api.OK}, {[]byte{7, 4, 1, 1}, api.ErrName}, {with([]byte{7, 0, 1}, big), api.ErrArg}, {with([]byte{7, 0, 1}, vint.Put(1<<20+1)), api.ErrArg}, {with([]byte{7, 0}, vint.Put(math.MaxUint64)), api.ErrArg}, {[]byte{7, 0, 1, 128, 0}, api.ErrForm}, {with([]byte{7, 0, 1}, big, []byte{0}), api.ErrArg}, {with([]byte{7, 0, 1}, vint.Put(uint64(top)), []byte{0}), api.ErrForm},
		{[]byte{8, 3}, api.ErrShort}, {[]byte{8, 4, 1}, api.ErrName}, {with([]byte{8, 4}, vint.Put(1<<20+1)), api.ErrName}, {with([]byte{8, 3}, vint.Put(1<<20+1)), api.ErrArg}, {with([]byte{8, 3}, big), api.ErrArg}, {[]byte{8, 3, 1}, api.OK},
	} {
		for _, b := range [][]byte{framed(c.p), framed([]byte{1, 0}, c.p), framed(c.p, []byte{99})} {
			l, e := script.Take(b)
			want := c.e
			if want == api.OK && len(b) > len(framed(c.p)) && bytes.HasPrefix(b, framed(c.p)) {
				want = api.ErrForm
			}
			if e != want || e != api.OK && len(l) != 0 {
				t.Errorf("case %d: %v, %d, not %d", i, l, e, want)
			}
			if e != api.OK {
				continue
			}
			if back, f := script.Put(l); f != api.OK || !bytes.Equal(back, b) {
				t.Errorf("case %d: told again: %v, %d", i, back, f)
			}
		}
	}
}

// TestFramesFirst: what is wrong with a frame is told ahead of what is wrong with an item.
func TestFramesFirst(t *testing.T) {
	b := framed([]byte{99}, []byte{1, 0})
	for i, c := range []struct {
		b []byte
		e api.Errno
	}{
		{b, api.ErrForm}, {b[:len(b)-1], api.ErrShort}, {crc.Turn(b, 8*len(b)-1, 1), api.ErrSum}, {slices.Concat(b, vint.Put(8193)), api.ErrLong}, {slices.Concat(b, []byte{128, 0}), api.ErrForm}, {slices.Concat(framed([]byte{1, 7}), []byte{128, 0}), api.ErrForm}, {framed([]byte{1, 7}, []byte{99}), api.ErrName},
	} {
		if l, e := script.Take(c.b); e != c.e || len(l) != 0 {
			t.Errorf("case %d: %v, %d", i, l, e)
		}
	}
}

func TestSame(t *testing.T) {
	make1 := func() script.Item {
		return script.Item{Do: 1, Who: 2, N: 3, At: 4, Mask: 5, Deps: api.Clock{6, 7, 8}, Writes: []api.Write{{Key: "a", Value: "b"}, {Key: "c", Gone: true}}, Kept: []int{9, 10}}
	}
	if !script.Same(make1(), make1()) || !script.Same(script.Item{}, script.Item{Writes: []api.Write{}, Kept: []int{}}) {
		t.Error("the same aren't")
	}
	for i, change := range []func(*script.Item){
		func(x *script.Item) { x.Do++ }, func(x *script.Item) { x.Who++ }, func(x *script.Item) { x.N++ }, func(x *script.Item) { x.At++ }, func(x *script.Item) { x.Mask++ }, func(x *script.Item) { x.Deps[0]++ }, func(x *script.Item) { x.Deps[2]++ },
		func(x *script.Item) { x.Writes = nil }, func(x *script.Item) { x.Writes[0].Key = "z" }, func(x *script.Item) { x.Writes[0].Value = "z" }, func(x *script.Item) { x.Writes[1].Gone = false }, func(x *script.Item) { x.Kept = x.Kept[:1] }, func(x *script.Item) { x.Kept[1]++ },
	} {
		y := make1()
		change(&y)
		if script.Same(make1(), y) || script.Same(y, make1()) {
			t.Errorf("case %d: same", i)
		}
	}
}
