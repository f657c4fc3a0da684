package keep_test

import (
	"bytes"
	"math/rand/v2"
	"slices"
	"strconv"
	"strings"
	"testing"

	"packetboat/api"
	"packetboat/disk"
	"packetboat/epoch"
	"packetboat/frame"
	"packetboat/keep"
	"packetboat/kv"
	"packetboat/txn"
)

func one(origin int, seq int64, deps api.Clock) api.Txn {
	deps[origin] = seq - 1
	return api.Txn{Origin: origin, Seq: seq, Deps: deps, Writes: []api.Write{{Key: "k" + strconv.Itoa(int(seq)%5), Value: strings.Repeat("v", int(seq))}, {Key: "x", Gone: seq%2 == 0}}}
}

// text is the document's words: each transaction's frame.
func text(l []api.Txn) ([]byte, []int) {
	var b []byte
	ends := []int{0}
	for _, t := range l {
		p, _ := epoch.Pack([]api.Txn{t})
		f, _ := frame.Wrap(p)
		b = append(b, f...)
		ends = append(ends, len(b))
	}
	return b, ends
}

// laid is a disk whose file 0 has these bytes, of which none is sure.
func laid(b []byte) *disk.Disk {
	d, _ := disk.New(1 << 16)
	_ = d.Append(0, b)
	return d
}

func agree(t *testing.T, k *keep.Keep, d *disk.Disk, l []api.Txn) {
	t.Helper()
	var applied api.Clock
	for _, x := range l {
		applied[x.Origin]++
	}
	if k.Applied() != applied || !slices.EqualFunc(k.All(), l, txn.Same) || !bytes.Equal(k.State().Text(), kv.Fold(l).Text()) {
		t.Fatalf("%v, %d, not %v, %d", k.Applied(), len(k.All()), applied, len(l))
	}
	if k.Broken() {
		return
	}
	want, _ := text(l)
	if b, _ := d.Read(0); !bytes.Equal(b, want) || d.Sure(0) != len(want) {
		t.Fatalf("the file isn't as it should be, or sure: %d of %d", d.Sure(0), len(want))
	}
}

func TestExample(t *testing.T) {
	d, _ := disk.New(1000)
	k, e := keep.Open(d)
	if e != api.OK {
		t.Fatal(e)
	}
	agree(t, k, d, nil)
	a, b := one(0, 1, api.Clock{}), one(2, 1, api.Clock{1, 0, 0})
	if e := k.Apply(a); e != api.OK {
		t.Error(e)
	}
	if e := k.Apply(b); e != api.OK || k.Applied() != (api.Clock{1, 0, 1}) {
		t.Errorf("%d, %v", e, k.Applied())
	}
	agree(t, k, d, []api.Txn{a, b})
}

func TestOpenWrong(t *testing.T) {
	if k, e := keep.Open(nil); k != nil || e != api.ErrArg {
		t.Errorf("%d", e)
	}
	d := laid([]byte{128, 0})
	d.Fuse(0)
	_ = d.Sync(0)
	if k, e := keep.Open(d); k != nil || e != api.ErrDown {
		t.Errorf("%d", e)
	}
	wrap := func(p ...byte) []byte {
		f, _ := frame.Wrap(p)
		return f
	}
	batch := func(l ...api.Txn) []byte {
		p, _ := epoch.Pack(l)
		return wrap(p...)
	}
	a, b := one(0, 1, api.Clock{}), one(2, 1, api.Clock{1, 0, 0})
	good, _ := text([]api.Txn{a, b})
	spoilt := slices.Clone(batch(one(0, 2, api.Clock{})))
	spoilt[3] ^= 1
	for i, c := range []struct {
		tail []byte
		e    api.Errno
	}{
		{[]byte{128, 0}, api.ErrSum}, {[]byte{255, 255, 3}, api.ErrSum}, {spoilt, api.ErrSum}, {wrap(), api.ErrShort}, {wrap(1), api.ErrShort}, {wrap(5), api.ErrLong}, {wrap(128, 0), api.ErrForm}, {wrap(0, 0), api.ErrForm}, {wrap(1, 3, 1, 0, 0, 0, 0), api.ErrName}, {wrap(1, 0, 1, 0, 0, 0, 17), api.ErrLong},
		{wrap(0), api.ErrForm}, {batch(one(0, 2, api.Clock{}), one(0, 3, api.Clock{})), api.ErrForm}, {batch(one(0, 1, api.Clock{})), api.ErrGap}, {batch(one(0, 3, api.Clock{})), api.ErrGap}, {batch(one(0, 3, api.Clock{0, 9, 9})), api.ErrGap}, {batch(one(0, 2, api.Clock{0, 1, 0})), api.ErrDeps}, {batch(one(1, 1, api.Clock{1, 0, 2})), api.ErrDeps},
		{batch(one(1, 1, api.Clock{1, 0, 1})), api.OK},
	} {
		for _, behind := range [][]byte{nil, {128, 0}} {
			d := laid(slices.Concat(good, c.tail, behind))
			left := d.Left()
			want := c.e
			if want == api.OK && behind != nil {
				want = api.ErrSum
			}
			k, e := keep.Open(d)
			if e != want || (k == nil) != (e != api.OK) || d.Left() != left || e != api.OK && d.Sure(0) != 0 {
				t.Errorf("case %d: %d, not %d", i, e, want)
			}
		}
	}
}

// TestOpenMends: what is cut off is as far as it is whole, behind Open too; and Open's steps.
func TestOpenMends(t *testing.T) {
	l := []api.Txn{one(1, 1, api.Clock{}), one(1, 2, api.Clock{}), one(0, 1, api.Clock{0, 2, 0}), one(2, 1, api.Clock{1, 0, 0})}
	b, ends := text(l)
	for cut := range len(b) + 1 {
		whole := 0
		for whole+1 < len(ends) && ends[whole+1] <= cut {
			whole++
		}
		d := laid(b[:cut])
		k, e := keep.Open(d)
		if e != api.OK {
			t.Fatalf("cut off at %d: %d", cut, e)
		}
		agree(t, k, d, l[:whole])
		steps := 1
		if ends[whole] < cut {
			steps = 2
		}
		for fuse := range 3 {
			d := laid(b[:cut])
			d.Fuse(fuse)
			k, e := keep.Open(d)
			if fuse < steps && (k != nil || e != api.ErrDown || d.Sure(0) != 0) || fuse >= steps && e != api.OK {
				t.Fatalf("cut off at %d, %d steps: %d", cut, fuse, e)
			}
			if got, _ := d.Read(0); fuse == 0 && len(got) != cut || fuse > 0 && len(got) != ends[whole] {
				t.Fatalf("cut off at %d, %d steps: %d bytes", cut, fuse, len(got))
			}
		}
	}
}

func TestMayApplyWrong(t *testing.T) {
	d, _ := disk.New(1 << 12)
	k, _ := keep.Open(d)
	l := []api.Txn{one(1, 1, api.Clock{}), one(1, 2, api.Clock{})}
	for _, x := range l {
		if e := k.Apply(x); e != api.OK {
			t.Fatal(e)
		}
	}
	long := one(1, 3, api.Clock{})
	long.Writes[0].Key = strings.Repeat("k", 65)
	for i, c := range []struct {
		t api.Txn
		e api.Errno
	}{
		{api.Txn{Origin: 3}, api.ErrName}, {api.Txn{}, api.ErrArg}, {api.Txn{Seq: 2}, api.ErrDeps}, {long, api.ErrLong}, {one(1, 2, api.Clock{}), api.ErrGap}, {one(1, 1, api.Clock{9, 0, 0}), api.ErrGap}, {one(1, 4, api.Clock{}), api.ErrGap}, {one(0, 2, api.Clock{}), api.ErrGap}, {one(0, 1, api.Clock{0, 3, 0}), api.ErrDeps}, {one(1, 3, api.Clock{1, 0, 0}), api.ErrDeps}, {one(1, 3, api.Clock{0, 0, 1}), api.ErrDeps},
	} {
		if e := k.May(c.t); e != c.e {
			t.Errorf("case %d: May: %d", i, e)
		}
		d.Fuse(0) // no step is done
		if e := k.Apply(c.t); e != c.e || d.Down() {
			t.Errorf("case %d: Apply: %d", i, e)
		}
		d.Fuse(-1)
	}
	agree(t, k, d, l)
	if e := k.May(one(0, 1, api.Clock{0, 2, 0})); e != api.OK || len(k.All()) != 2 {
		t.Errorf("%d", e)
	}
}

func TestFull(t *testing.T) {
	d, _ := disk.New(60)
	k, _ := keep.Open(d)
	var l []api.Txn
	for seq := int64(1); ; seq++ {
		x := one(0, seq, api.Clock{})
		was := d.Left()
		e := k.Apply(x)
		if e == api.OK {
			l = append(l, x)
			continue
		}
		if e != api.ErrFull || k.Broken() || d.Left() != was || len(l) == 0 {
			t.Fatalf("%d", e)
		}
		break
	}
	agree(t, k, d, l)
	d.Fuse(1) // with ErrFull nothing more is done: one step
	if e := k.Apply(one(0, int64(len(l))+1, api.Clock{})); e != api.ErrFull || d.Down() {
		t.Errorf("%d", e)
	}
	if e := k.Apply(one(0, int64(len(l))+1, api.Clock{})); e != api.ErrDown || !k.Broken() {
		t.Errorf("%d", e)
	}
}

func TestBroken(t *testing.T) {
	for _, fuse := range []int{0, 1} {
		d, _ := disk.New(1 << 12)
		k, _ := keep.Open(d)
		first, second := one(0, 1, api.Clock{}), one(0, 2, api.Clock{})
		_ = k.Apply(first)
		d.Fuse(fuse)
		if e := k.Apply(second); e != api.ErrDown || !k.Broken() {
			t.Fatalf("%d", e)
		}
		agree(t, k, d, []api.Txn{first})
		_, ends := text([]api.Txn{first, second})
		if b, _ := d.Read(0); len(b) != ends[1+fuse] {
			t.Errorf("%d steps: %d bytes", fuse, len(b))
		}
		d.Crash()
		for _, x := range []api.Txn{second, {}, {Origin: 3}} {
			if e := k.Apply(x); e != api.ErrDown {
				t.Errorf("%d", e)
			}
		}
		if k.May(second) != api.OK || k.May(api.Txn{}) != api.ErrArg {
			t.Error("May of one that is broken")
		}
		agree(t, k, d, []api.Txn{first})
	}
}

// TestCrashes: behind a crash, and Open, a keep has all that it had, and perhaps the one that was on its way.
func TestCrashes(t *testing.T) {
	r := rand.New(rand.NewPCG(17, 1))
	for range 100 {
		d, _ := disk.New(1 << 14)
		k, _ := keep.Open(d)
		var l []api.Txn
		for range 60 {
			a := k.Applied()
			origin := r.IntN(3)
			x := one(origin, a[origin]+1, api.Clock{r.Int64N(a[0] + 1), r.Int64N(a[1] + 1), r.Int64N(a[2] + 1)})
			if r.IntN(6) == 0 {
				d.Fuse(r.IntN(4))
			}
			put := one(x.Origin, x.Seq, x.Deps)
			e := k.Apply(put)
			put.Writes[0].Key = "changed"
			switch e {
			case api.OK:
				l = append(l, x)
				agree(t, k, d, l)
			case api.ErrDown:
				d.Crash(r.IntN(200) - 20)
				if k, e = keep.Open(d); e != api.OK {
					t.Fatal(e)
				}
				if len(k.All()) == len(l)+1 {
					l = append(l, x)
				}
				agree(t, k, d, l)
			default:
				t.Fatal(e)
			}
		}
	}
}

func TestSharesNothing(t *testing.T) {
	d, _ := disk.New(1 << 12)
	k, _ := keep.Open(d)
	l := []api.Txn{one(0, 1, api.Clock{}), one(1, 1, api.Clock{})}
	for _, x := range l {
		_ = k.Apply(x)
	}
	all := k.All()
	all[0].Writes[0].Key = "changed"
	all[1] = api.Txn{}
	k.State().Apply([]api.Write{{Key: "new", Value: "1"}})
	agree(t, k, d, l)
}
