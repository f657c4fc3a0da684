package clog_test

import (
	"bytes"
	"math"
	"math/rand/v2"
	"slices"
	"strconv"
	"strings"
	"testing"

	"packetboat/api"
	"packetboat/clog"
	"packetboat/disk"
	"packetboat/frame"
	"packetboat/mark"
	"packetboat/seg"
	"packetboat/txn"
)

const top = int64(api.MaxNumber)

// part is a segment as the model has it.
type part struct {
	head seg.Head
	txns []api.Txn
	sure int // bytes
}

// text tells a segment's bytes, and where each frame ends.
func (p part) text() ([]byte, []int) {
	w, b, _ := seg.New(p.head)
	ends := []int{len(b)}
	for _, t := range p.txns {
		f, _ := w.Put(t)
		b = append(b, f...)
		ends = append(ends, len(b))
	}
	return b, ends
}

func (p part) file() int { return int(p.head.Place % 64) }

// model is the document's words: a log whose transactions all lie in memory, with a room, power and a fuse.
type model struct {
	origin int
	room   int
	parts  []part
	fuse   int
	broken bool
}

func (m *model) base() int64 {
	if len(m.parts) == 0 {
		return 0
	}
	return m.parts[0].head.First - 1
}

func (m *model) next() int64 {
	if len(m.parts) == 0 {
		return 1
	}
	p := m.parts[len(m.parts)-1]
	return p.head.First + int64(len(p.txns))
}

func (m *model) synced() int64 {
	n := m.base()
	for _, p := range m.parts {
		_, ends := p.text()
		for _, end := range ends[1:] {
			if end <= p.sure {
				n++
			}
		}
	}
	return n
}

func (m *model) left() int {
	left := m.room
	for _, p := range m.parts {
		b, _ := p.text()
		left -= len(b)
	}
	return left
}

func (m *model) step() bool {
	if m.broken || m.fuse == 0 {
		m.broken = true
		return false
	}
	if m.fuse > 0 {
		m.fuse--
	}
	return true
}

func (m *model) sync() api.Errno {
	if m.broken {
		return api.ErrDown
	}
	if n := len(m.parts); n > 0 {
		if !m.step() {
			return api.ErrDown
		}
		b, _ := m.parts[n-1].text()
		m.parts[n-1].sure = len(b)
	}
	return api.OK
}

func (m *model) append(t api.Txn) api.Errno {
	if m.broken {
		return api.ErrDown
	}
	if e := txn.Check(t); e != api.OK {
		return e
	}
	switch {
	case t.Origin != m.origin:
		return api.ErrName
	case t.Seq == top:
		return api.ErrOver
	case t.Seq != m.next():
		return api.ErrGap
	}
	var old []byte
	if n := len(m.parts); n > 0 {
		old, _ = m.parts[n-1].text()
	}
	parts := slices.Clone(m.parts)
	if n := len(parts); n == 0 || len(old) >= api.SegBytes {
		place := int64(0)
		if n > 0 {
			place = parts[n-1].head.Place + 1
			if e := m.sync(); e != api.OK {
				return e
			}
			parts = slices.Clone(m.parts)
		}
		if n == 64 {
			return api.ErrFull
		}
		old = nil
		parts = append(parts, part{head: seg.Head{Origin: m.origin, Place: place, First: t.Seq}})
	}
	last := &parts[len(parts)-1]
	last.txns = append(slices.Clone(last.txns), t)
	b, _ := last.text()
	if !m.step() {
		return api.ErrDown
	}
	if len(b)-len(old) > m.left() {
		return api.ErrFull
	}
	m.parts = parts
	return api.OK
}

func (m *model) trim(seq int64) api.Errno {
	if m.broken {
		return api.ErrDown
	}
	for len(m.parts) > 1 && m.parts[1].head.First-1 <= seq && m.parts[1].head.First <= m.synced() {
		if !m.step() {
			return api.ErrDown
		}
		m.parts = m.parts[1:]
	}
	return api.OK
}

// crash loses what isn't sure, but for some bytes of each file, and opens anew.
func (m *model) crash(kept []int) {
	m.broken, m.fuse = false, -1
	for i := range m.parts {
		p := &m.parts[i]
		b, ends := p.text()
		there := p.sure
		if len(kept) > 0 {
			there += max(kept[p.file()%len(kept)], 0)
		}
		there = min(there, len(b))
		whole := 0
		for whole < len(ends) && ends[whole] <= there {
			whole++
		}
		if whole == 0 {
			m.parts = m.parts[:i]
			return
		}
		p.txns = p.txns[:whole-1]
		p.sure = ends[whole-1]
	}
}

func (m *model) all() []api.Txn {
	var l []api.Txn
	for _, p := range m.parts {
		l = append(l, p.txns...)
	}
	return l
}

func agree(t *testing.T, l *clog.Log, d *disk.Disk, m *model) {
	t.Helper()
	if l.Base() != m.base() || l.Next() != m.next() || l.Synced() != m.synced() {
		t.Fatalf("%d, %d, %d; not %d, %d, %d", l.Base(), l.Next(), l.Synced(), m.base(), m.next(), m.synced())
	}
	var files []int
	x := mark.New()
	for _, p := range m.parts {
		b, ends := p.text()
		got, _ := d.Read(p.file())
		if !bytes.Equal(got, b) || d.Sure(p.file()) != p.sure {
			t.Fatalf("file %d isn't as it should be, or sure: %d, not %d", p.file(), d.Sure(p.file()), p.sure)
		}
		files = append(files, p.file())
		for i, q := range p.txns {
			_, _ = x.Add(mark.Mark{Seq: q.Seq, File: p.file(), At: ends[i]})
		}
	}
	if !slices.Equal(l.Files(), files) || d.Left() != m.left() {
		t.Fatalf("files %v, not %v; left %d, not %d", l.Files(), files, d.Left(), m.left())
	}
	if d.Down() != m.broken {
		t.Fatalf("down: %v", d.Down())
	}
	// Marks go on from segment to segment: the file of each one's first transaction isn't the last mark's.
	if !slices.Equal(l.Marks(), x.All()) {
		t.Fatalf("marks %v, not %v", l.Marks(), x.All())
	}
}

func agreeRange(t *testing.T, l *clog.Log, m *model, from int64, many int) {
	t.Helper()
	got, e := l.Range(from, many)
	if from <= m.base() || from >= m.next() {
		if len(got) != 0 || e != api.ErrName {
			t.Fatalf("Range(%d, %d): %v, %d", from, many, got, e)
		}
		return
	}
	want := m.all()[from-m.base()-1:]
	want = want[:max(min(many, len(want)), 0)]
	if e != api.OK || !slices.EqualFunc(got, want, txn.Same) {
		t.Fatalf("Range(%d, %d): %v, %d", from, many, got, e)
	}
}

func random(r *rand.Rand, origin int, seq int64) api.Txn {
	t := api.Txn{Origin: origin, Seq: seq, Deps: api.Clock{r.Int64N(9), r.Int64N(9), r.Int64N(9)}}
	if origin >= 0 && origin < api.Origins {
		t.Deps[origin] = seq - 1
	}
	for range r.IntN(4) {
		t.Writes = append(t.Writes, api.Write{Key: strconv.Itoa(r.IntN(12)), Value: strings.Repeat("v", r.IntN(150))})
	}
	return t
}

func TestAgainstModel(t *testing.T) {
	r := rand.New(rand.NewPCG(11, 1))
	for round := range 60 {
		room := []int{1 << 20, 3000, 1200, 20000}[round%4]
		origin := r.IntN(api.Origins)
		d, _ := disk.New(room)
		m := &model{origin: origin, room: room, fuse: -1}
		l, e := clog.Open(d, origin)
		if e != api.OK {
			t.Fatal(e)
		}
		agree(t, l, d, m)
		for range 120 {
			var got, want api.Errno
			switch r.IntN(14) {
			case 0, 1:
				got, want = l.Sync(), m.sync()
			case 2:
				seq := m.base() + r.Int64N(m.next()-m.base()+3) - 1
				got, want = l.Trim(seq), m.trim(seq)
			case 3:
				if r.IntN(3) == 0 {
					n := r.IntN(6)
					d.Fuse(n)
					m.fuse = n
				}
			case 4:
				if m.broken || r.IntN(4) == 0 {
					var kept []int
					for range r.IntN(4) {
						kept = append(kept, r.IntN(700)-100)
					}
					d.Crash(kept...)
					m.crash(kept)
					if l, e = clog.Open(d, origin); e != api.OK {
						t.Fatalf("Open behind a crash: %d", e)
					}
				}
			case 5:
				x := random(r, r.IntN(4), m.next()+r.Int64N(3)-1)
				got, want = l.Append(x), m.append(x)
			case 6:
				agreeRange(t, l, m, m.base()+r.Int64N(m.next()-m.base()+3)-1, r.IntN(20)-2)
			default:
				x := random(r, origin, m.next())
				got, want = l.Append(x), m.append(x)
				for i := range x.Writes { // what was appended is kept as it was
					x.Writes[i].Key = "changed"
				}
				if n := len(m.parts); want == api.OK && n > 0 {
					last := m.parts[n-1].txns
					q := &last[len(last)-1]
					if back, _ := l.Range(q.Seq, 1); len(back) == 1 {
						q.Writes = back[0].Writes
						if len(q.Writes) > 0 && q.Writes[0].Key == "changed" {
							t.Fatal("a list is kept")
						}
					}
				}
			}
			if got != want {
				t.Fatalf("%d, not %d", got, want)
			}
			agree(t, l, d, m)
		}
		agreeRange(t, l, m, m.base()+1, math.MaxInt)
	}
}

func one(origin int, seq int64) api.Txn {
	t := api.Txn{Origin: origin, Seq: seq, Writes: []api.Write{{Key: "k", Value: strings.Repeat("v", 200)}}}
	t.Deps[origin] = seq - 1
	return t
}

// filled is a log of transactions, three of which fill a segment, all of them made sure.
func filled(t *testing.T, room, many int) (*clog.Log, *disk.Disk) {
	t.Helper()
	d, _ := disk.New(room)
	l, _ := clog.Open(d, 0)
	for i := range many {
		if e := l.Append(one(0, int64(i)+1)); e != api.OK {
			t.Fatal(e)
		}
	}
	if e := l.Sync(); e != api.OK {
		t.Fatal(e)
	}
	return l, d
}

func TestExamples(t *testing.T) {
	d, _ := disk.New(1 << 12)
	l, e := clog.Open(d, 0)
	if e != api.OK || l.Base() != 0 || l.Next() != 1 || l.Synced() != 0 || len(l.Files()) != 0 || len(l.Marks()) != 0 || l.Sync() != api.OK || l.Trim(5) != api.OK {
		t.Fatal("without segments")
	}
	small := func(seq int64) api.Txn { return api.Txn{Seq: seq, Deps: api.Clock{seq - 1}} }
	_ = l.Append(small(1))
	_ = l.Append(small(2))
	_ = l.Sync()
	_ = l.Append(small(3))
	if l.Base() != 0 || l.Next() != 4 || l.Synced() != 2 {
		t.Errorf("%d, %d, %d", l.Base(), l.Next(), l.Synced())
	}
	l, _ = filled(t, 1<<16, 7)
	if !slices.Equal(l.Files(), []int{0, 1, 2}) || l.Trim(3) != api.OK || !slices.Equal(l.Files(), []int{1, 2}) || l.Base() != 3 {
		t.Errorf("%v, %d", l.Files(), l.Base())
	}
}

func TestOpenWrongArguments(t *testing.T) {
	d, _ := disk.New(100)
	for i, c := range []struct {
		d      *disk.Disk
		origin int
		e      api.Errno
	}{{nil, 0, api.ErrArg}, {nil, 9, api.ErrArg}, {d, -1, api.ErrName}, {d, 3, api.ErrName}, {d, math.MinInt, api.ErrName}} {
		if l, e := clog.Open(c.d, c.origin); l != nil || e != c.e {
			t.Errorf("case %d: %d", i, e)
		}
	}
	_ = d.Append(0, []byte{1, 2, 3, 4, 5, 6, 7})
	d.Fuse(0)
	_ = d.Sync(0)
	if l, e := clog.Open(d, 0); l != nil || e != api.ErrDown {
		t.Errorf("%d", e)
	}
	if l, e := clog.Open(d, 3); l != nil || e != api.ErrName {
		t.Errorf("%d", e)
	}
}

// laid is a disk whose files have these bytes.
func laid(files map[int][]byte) *disk.Disk {
	d, _ := disk.New(1 << 20)
	for file, b := range files {
		_ = d.Append(file, b)
		_ = d.Sync(file)
	}
	return d
}

func segment(origin int, place, first int64, many int) []byte {
	p := part{head: seg.Head{Origin: origin, Place: place, First: first}}
	for i := range int64(many) {
		p.txns = append(p.txns, one(origin, first+i))
	}
	b, _ := p.text()
	return b
}

func wrap(p ...byte) []byte {
	b, _ := frame.Wrap(p)
	return b
}

func TestOpenWrong(t *testing.T) {
	join := func(l ...[]byte) []byte { return slices.Concat(l...) }
	spoilt := segment(1, 0, 1, 2)
	spoilt[6] ^= 1 // the head's sum
	torn := segment(1, 1, 3, 2)
	torn[len(torn)-1] ^= 1
	for i, c := range []struct {
		files map[int][]byte
		e     api.Errno
	}{
		{map[int][]byte{0: segment(1, 0, 1, 2), 1: segment(1, 1, 3, 1)}, api.OK},
		{map[int][]byte{63: segment(1, 63, 1, 2), 0: segment(1, 64, 3, 1), 1: segment(1, 65, 4, 0)}, api.OK},
		{map[int][]byte{5: segment(1, 64*9+5, 70, 2)}, api.OK},
		{map[int][]byte{0: segment(1, 0, 1, 2), 1: segment(1, 1, 3, 0), 2: segment(1, 2, 3, 1)}, api.OK},
		// no head
		{map[int][]byte{0: spoilt}, api.ErrSum},
		{map[int][]byte{9: {128, 0}}, api.ErrSum},
		{map[int][]byte{9: {255, 255, 3}}, api.ErrSum},
		{map[int][]byte{9: wrap(7, 0, 1)}, api.ErrSum},
		{map[int][]byte{9: wrap(1, 9, 0)}, api.ErrSum},
		{map[int][]byte{9: wrap(1, 9, 1, 0)}, api.ErrSum},
		{map[int][]byte{0: segment(2, 0, 1, 2), 9: spoilt}, api.ErrSum},
		{map[int][]byte{0: segment(1, 1, 1, 2), 9: spoilt}, api.ErrSum},
		// of another origin
		{map[int][]byte{0: segment(2, 0, 1, 2)}, api.ErrName},
		{map[int][]byte{0: segment(0, 0, 1, 2)}, api.ErrName},
		{map[int][]byte{0: segment(1, 0, 1, 2), 1: segment(2, 1, 3, 1)}, api.ErrName},
		{map[int][]byte{0: segment(1, 1, 1, 2), 1: segment(2, 1, 3, 1)}, api.ErrName},
		{map[int][]byte{0: torn, 3: segment(2, 3, 1, 1)}, api.ErrName},
		// what doesn't follow
		{map[int][]byte{1: segment(1, 0, 1, 2)}, api.ErrGap},
		{map[int][]byte{0: segment(1, 0, 1, 2), 1: segment(1, 65, 3, 1)}, api.ErrGap},
		{map[int][]byte{0: segment(1, 0, 1, 2), 2: segment(1, 2, 3, 1)}, api.ErrGap},
		{map[int][]byte{0: segment(1, 0, 1, 2), 1: segment(1, 1, 4, 1)}, api.ErrGap},
		{map[int][]byte{0: segment(1, 0, 1, 2), 1: segment(1, 1, 2, 1)}, api.ErrGap},
		{map[int][]byte{0: segment(1, 0, 1, 2), 1: segment(1, 1, 1, 1)}, api.ErrGap},
		{map[int][]byte{0: segment(1, 64, 4, 2), 1: segment(1, 1, 3, 1)}, api.ErrGap},
		{map[int][]byte{0: segment(1, 0, 1, 2)[:40], 1: segment(1, 1, 3, 1)}, api.ErrGap},
		{map[int][]byte{0: segment(1, 0, 1, 2), 1: segment(1, 1, 4, 1), 2: torn}, api.ErrGap},
		// what can't be read
		{map[int][]byte{0: join(segment(1, 0, 1, 2), []byte{9}), 1: segment(1, 1, 3, 1)}, api.ErrSum},
		{map[int][]byte{0: join(segment(1, 0, 1, 2), wrap(1)), 1: segment(1, 1, 3, 1)}, api.ErrSum},
		{map[int][]byte{0: join(segment(1, 0, 1, 2), []byte{128, 0}), 1: segment(1, 1, 3, 1)}, api.ErrSum},
		{map[int][]byte{0: segment(1, 0, 1, 2), 1: torn}, api.ErrSum},
		{map[int][]byte{0: join(segment(1, 0, 1, 2), []byte{128, 0})}, api.ErrSum},
		{map[int][]byte{0: join(segment(1, 0, 1, 2), wrap(1, 9, 0, 16, 0, 0))}, api.ErrSum},
		{map[int][]byte{0: join(segment(1, 0, 1, 2), wrap(1, 3, 0, 2, 0, 0, 0))}, api.ErrSum},
		// what is too short
		{map[int][]byte{0: segment(1, 0, 1, 2)[:100], 4: {3}, 7: {5, 1, 2}, 8: segment(1, 9, 9, 0)[:7]}, api.OK},
		{map[int][]byte{0: segment(1, 0, 1, 2), 1: wrap(), 2: wrap(1, 0)}, api.OK},
		{map[int][]byte{0: join(segment(1, 0, 1, 2), wrap(1, 3))}, api.OK},
		{map[int][]byte{1: {3}}, api.OK},
	} {
		d := laid(c.files)
		left := d.Left()
		l, e := clog.Open(d, 1)
		if e != c.e || (l == nil) != (e != api.OK) || e != api.OK && d.Left() != left {
			t.Errorf("case %d: %d, not %d", i, e, c.e)
		}
	}
}

// TestOpenMends: what Open does on the disk, in its order, step by step.
func TestOpenMends(t *testing.T) {
	whole := segment(1, 2, 7, 3)
	_, ends := part{head: seg.Head{Origin: 1, Place: 2, First: 7}, txns: []api.Txn{one(1, 7), one(1, 8), one(1, 9)}}.text()
	torn := whole[:len(whole)-3]
	lay := func() *disk.Disk {
		d, _ := disk.New(1 << 16)
		_ = d.Append(2, torn)
		_ = d.Append(9, []byte{200})
		_ = d.Append(0, []byte{3, 1})
		return d
	}
	for steps := range 4 {
		d := lay()
		d.Fuse(steps)
		if l, e := clog.Open(d, 1); l != nil || e != api.ErrDown {
			t.Fatalf("%d steps: %d", steps, e)
		}
		want := [][]int{{0, 2, 9}, {2, 9}, {2}, {2}}[steps]
		b, _ := d.Read(2)
		if !slices.Equal(d.Files(), want) || len(b) != []int{len(torn), len(torn), len(torn), ends[2]}[steps] || d.Sure(2) != 0 {
			t.Errorf("%d steps: %v, %d", steps, d.Files(), len(b))
		}
	}
	d := lay()
	d.Fuse(4)
	l, e := clog.Open(d, 1)
	if e != api.OK || l.Base() != 6 || l.Next() != 9 || l.Synced() != 8 || d.Sure(2) != ends[2] || d.Sync(0) != api.ErrDown {
		t.Errorf("%d", e)
	}
	// Without a torn end there is one step less; without segments none to make sure.
	d = laid(map[int][]byte{2: whole})
	d.Fuse(1)
	if _, e := clog.Open(d, 1); e != api.OK || d.Down() || d.Sync(0) != api.ErrDown {
		t.Errorf("%d", e)
	}
	d = laid(nil)
	d.Fuse(0)
	if _, e := clog.Open(d, 1); e != api.OK || d.Down() {
		t.Errorf("%d", e)
	}
	d = laid(map[int][]byte{2: whole[:3]})
	d.Fuse(1)
	if l, e := clog.Open(d, 1); e != api.OK || l.Next() != 1 || len(d.Files()) != 0 {
		t.Errorf("%d", e)
	}
}

// TestHeadAlone: a segment of which the crash left the head goes on there.
func TestHeadAlone(t *testing.T) {
	d := laid(map[int][]byte{0: segment(1, 0, 1, 3), 1: segment(1, 1, 4, 0)})
	l, e := clog.Open(d, 1)
	if e != api.OK || l.Base() != 0 || l.Next() != 4 || l.Synced() != 3 || !slices.Equal(l.Files(), []int{0, 1}) {
		t.Fatalf("%d, %d", e, l.Next())
	}
	if e := l.Trim(3); e != api.OK || l.Base() != 0 {
		t.Errorf("trimmed what the one behind isn't sure of: %d", l.Base())
	}
	if e := l.Append(one(1, 4)); e != api.OK || l.Trim(3) != api.OK || l.Base() != 0 {
		t.Errorf("%d, %d", e, l.Base())
	}
	if l.Sync() != api.OK || l.Trim(2) != api.OK || l.Base() != 0 || l.Trim(3) != api.OK || l.Base() != 3 || !slices.Equal(d.Files(), []int{1}) {
		t.Errorf("%d, %v", l.Base(), d.Files())
	}
	d = laid(map[int][]byte{5: segment(2, 5, 40, 0)})
	l, e = clog.Open(d, 2)
	if e != api.OK || l.Base() != 39 || l.Next() != 40 || l.Synced() != 39 {
		t.Errorf("%d", e)
	}
	if _, e := l.Range(40, 1); e != api.ErrName {
		t.Errorf("%d", e)
	}
}

func TestAppendErrors(t *testing.T) {
	l, d := filled(t, 1<<16, 2)
	long := one(0, 3)
	long.Writes[0].Key = strings.Repeat("k", 65)
	last := api.Txn{Seq: top, Deps: api.Clock{top - 1}}
	for i, c := range []struct {
		t api.Txn
		e api.Errno
	}{
		{api.Txn{Origin: 7}, api.ErrName}, {api.Txn{}, api.ErrArg}, {api.Txn{Seq: 3}, api.ErrDeps}, {long, api.ErrLong}, {one(1, 3), api.ErrName}, {one(1, top), api.ErrName}, {last, api.ErrOver}, {one(0, 4), api.ErrGap}, {one(0, 2), api.ErrGap}, {one(0, 1), api.ErrGap},
	} {
		if e := l.Append(c.t); e != c.e || l.Next() != 3 {
			t.Errorf("case %d: %d", i, e)
		}
	}
	d.Fuse(0)
	if e := l.Append(one(0, 3)); e != api.ErrDown {
		t.Errorf("%d", e)
	}
	for i, x := range []api.Txn{{Origin: 7}, one(0, 3), last} {
		if e := l.Append(x); e != api.ErrDown {
			t.Errorf("broken, case %d: %d", i, e)
		}
	}
	d.Crash() // a log that is broken stays so
	if l.Sync() != api.ErrDown || l.Trim(0) != api.ErrDown || l.Append(one(0, 3)) != api.ErrDown {
		t.Error("mended by itself")
	}
	if got, e := l.Range(1, 5); len(got) != 2 || e != api.OK {
		t.Errorf("Range of one that is broken: %v, %d", got, e)
	}
	d.Fuse(0)
	l, _ = clog.Open(laid(nil), 0)
	if e := l.Trim(9); e != api.OK {
		t.Errorf("%d", e)
	}
}

func TestPlacesEnd(t *testing.T) {
	file := int(top % 64)
	d := laid(map[int][]byte{file: segment(0, top, 1, 3)})
	l, e := clog.Open(d, 0)
	if e != api.OK {
		t.Fatal(e)
	}
	d.Fuse(0) // ErrOver comes ahead of the step
	if e := l.Append(one(0, 4)); e != api.ErrOver || d.Down() {
		t.Errorf("%d", e)
	}
	d = laid(map[int][]byte{0: segment(0, 64, top-1, 1)})
	l, e = clog.Open(d, 0)
	if e != api.OK || l.Next() != top {
		t.Fatal(e)
	}
	if e := l.Append(one(0, top)); e != api.ErrOver {
		t.Errorf("%d", e)
	}
}

// TestAllFiles: a log has no more segments than the disk has files, and goes on when the first one is let go.
func TestAllFiles(t *testing.T) {
	l, d := filled(t, 1<<20, 64*3)
	for range 2 {
		if e := l.Append(one(0, 193)); e != api.ErrFull || l.Next() != 193 || len(l.Files()) != 64 {
			t.Fatalf("%d, %d", e, len(l.Files()))
		}
	}
	if e := l.Trim(5); e != api.OK || l.Base() != 3 {
		t.Fatalf("%d, %d", e, l.Base())
	}
	if e := l.Append(one(0, 193)); e != api.OK || !slices.Equal(l.Files()[62:], []int{63, 0}) {
		t.Fatalf("%d, %v", e, l.Files())
	}
	if got, e := l.Range(191, 9); e != api.OK || len(got) != 3 || !txn.Same(got[2], one(0, 193)) {
		t.Errorf("%v, %d", got, e)
	}
	d.Crash(1000)
	if l, e := clog.Open(d, 0); e != api.OK || l.Base() != 3 || l.Next() != 194 {
		t.Errorf("%d", e)
	}
}

// TestBeginMakesSure: when a segment is begun the last one is made sure, and what is sure is synced.
func TestBeginMakesSure(t *testing.T) {
	d, _ := disk.New(1 << 16)
	l, _ := clog.Open(d, 0)
	for seq := range int64(3) {
		_ = l.Append(one(0, seq+1))
	}
	if l.Synced() != 0 || d.Sure(0) != 0 {
		t.Fatalf("%d", l.Synced())
	}
	d.Fuse(1) // the last one is made sure, and then there is no power
	if e := l.Append(one(0, 4)); e != api.ErrDown || l.Synced() != 3 || l.Next() != 4 || d.Sure(0) < 600 {
		t.Errorf("%d, %d, %d", e, l.Synced(), l.Next())
	}
	d.Crash()
	l, e := clog.Open(d, 0)
	if e != api.OK || l.Next() != 4 {
		t.Fatalf("%d", e)
	}
	_ = d.Append(1, []byte{1})
	if e := l.Append(one(0, 4)); e != api.ErrFull || l.Next() != 4 || len(l.Files()) != 1 {
		t.Errorf("the file that comes next has bytes: %d", e)
	}
}

// TestFullChangesNothing: a full disk fails the commit, and the next one that fits is as if it had not been.
func TestFullChangesNothing(t *testing.T) {
	d, _ := disk.New(330)
	l, _ := clog.Open(d, 0)
	_ = l.Append(one(0, 1))
	was, _ := d.Read(0)
	if e := l.Append(one(0, 2)); e != api.ErrFull || l.Next() != 2 || len(l.Marks()) != 1 {
		t.Fatalf("%d, %d", e, l.Next())
	}
	if b, _ := d.Read(0); !bytes.Equal(b, was) {
		t.Error("the disk is changed")
	}
	small := api.Txn{Seq: 2, Deps: api.Clock{1}, Writes: []api.Write{{Key: "q", Value: "1"}, {Key: "k", Gone: true}}}
	if e := l.Append(small); e != api.OK || l.Sync() != api.OK {
		t.Fatalf("%d", e)
	}
	l, e := clog.Open(d, 0)
	if e != api.OK || l.Next() != 3 {
		t.Fatalf("%d", e)
	}
	if got, e := l.Range(2, 1); e != api.OK || len(got) != 1 || !txn.Same(got[0], small) {
		t.Errorf("%v, %d", got, e)
	}
}

func TestRangeTrimEdges(t *testing.T) {
	l, d := filled(t, 1<<16, 8)
	for i, c := range []struct {
		from int64
		many int
		want int
		e    api.Errno
	}{
		{1, 100, 8, api.OK}, {1, math.MaxInt, 8, api.OK}, {1, 0, 0, api.OK}, {1, -1, 0, api.OK}, {1, math.MinInt, 0, api.OK}, {8, 1, 1, api.OK}, {8, 2, 1, api.OK}, {3, 4, 4, api.OK}, {4, 3, 3, api.OK},
		{0, 1, 0, api.ErrName}, {9, 1, 0, api.ErrName}, {9, 0, 0, api.ErrName}, {-1, 0, 0, api.ErrName}, {math.MinInt64, 1, 0, api.ErrName}, {math.MaxInt64, 1, 0, api.ErrName},
	} {
		got, e := l.Range(c.from, c.many)
		if e != c.e || len(got) != c.want {
			t.Errorf("case %d: %d, %d", i, len(got), e)
		}
		for j, x := range got {
			if !txn.Same(x, one(0, c.from+int64(j))) {
				t.Errorf("case %d: %v", i, x)
			}
		}
	}
	for i, c := range []struct{ seq, base int64 }{{math.MinInt64, 0}, {0, 0}, {2, 0}, {3, 3}, {5, 3}, {math.MaxInt64, 6}, {math.MaxInt64, 6}} {
		if e := l.Trim(c.seq); e != api.OK || l.Base() != c.base {
			t.Errorf("case %d: %d, %d", i, e, l.Base())
		}
		for _, m := range l.Marks() {
			if m.Seq <= c.base {
				t.Errorf("case %d: %v", i, m)
			}
		}
	}
	if _, e := l.Range(6, 1); e != api.ErrName || !slices.Equal(d.Files(), []int{2}) {
		t.Errorf("%d", e)
	}
	l, d = filled(t, 1<<16, 8)
	d.Fuse(1)
	if e := l.Trim(7); e != api.ErrDown || l.Base() != 3 || !slices.Equal(l.Files(), []int{1, 2}) || l.Trim(0) != api.ErrDown {
		t.Errorf("%d, %d", e, l.Base())
	}
}

func TestSharesNothing(t *testing.T) {
	l, _ := filled(t, 1<<16, 7)
	files, marks := l.Files(), l.Marks()
	wantFiles, wantMarks := slices.Clone(files), slices.Clone(marks)
	files[0] = 9
	marks[1] = mark.Mark{}
	got, _ := l.Range(1, 7)
	got[2].Writes[0].Key = "changed"
	got[3] = api.Txn{}
	if !slices.Equal(l.Files(), wantFiles) || !slices.Equal(l.Marks(), wantMarks) {
		t.Errorf("%v, %v", l.Files(), l.Marks())
	}
	again, _ := l.Range(1, 7)
	for i, x := range again {
		if !txn.Same(x, one(0, int64(i)+1)) {
			t.Errorf("%v", x)
		}
	}
}
