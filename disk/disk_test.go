package disk_test

import (
	"bytes"
	"math"
	"math/rand/v2"
	"slices"
	"testing"

	"packetboat/api"
	"packetboat/disk"
)

// model is the document's words.
type model struct {
	room  int
	files [64][]byte
	sure  [64]int
	down  bool
	fuse  int
}

func (m *model) left() int {
	n := m.room
	for _, f := range m.files {
		n -= len(f)
	}
	return n
}

func (m *model) step() bool {
	if m.down || m.fuse == 0 {
		m.down = true
		return false
	}
	if m.fuse > 0 {
		m.fuse--
	}
	return true
}

func (m *model) append(file int, b []byte) api.Errno {
	if file < 0 || file > 63 {
		return api.ErrArg
	}
	if !m.step() {
		return api.ErrDown
	}
	if len(b) > m.left() {
		return api.ErrFull
	}
	m.files[file] = slices.Concat(m.files[file], b)
	return api.OK
}

func (m *model) sync(file int) api.Errno {
	if file < 0 || file > 63 {
		return api.ErrArg
	}
	if !m.step() {
		return api.ErrDown
	}
	m.sure[file] = len(m.files[file])
	return api.OK
}

func (m *model) cut(file, n int) api.Errno {
	if file < 0 || file > 63 || n < 0 || n > len(m.files[file]) {
		return api.ErrArg
	}
	if !m.step() {
		return api.ErrDown
	}
	m.files[file] = bytes.Clone(m.files[file][:n])
	m.sure[file] = min(n, m.sure[file])
	return api.OK
}

func (m *model) crash(kept []int) {
	for i := range m.files {
		n := m.sure[i]
		if len(kept) > 0 {
			for range min(max(kept[i%len(kept)], 0), len(m.files[i])-n) {
				n++
			}
		}
		m.files[i] = bytes.Clone(m.files[i][:n])
		m.sure[i] = n
	}
	m.down, m.fuse = false, -1
}

func agree(t *testing.T, d *disk.Disk, m *model) {
	t.Helper()
	var files []int
	for i := range m.files {
		b, e := d.Read(i)
		if e != api.OK || !bytes.Equal(b, m.files[i]) || d.Sure(i) != m.sure[i] {
			t.Fatalf("file %d: %v, %d, sure %d; not %v, %d", i, b, e, d.Sure(i), m.files[i], m.sure[i])
		}
		if len(b) > 0 {
			files = append(files, i)
		}
	}
	if !slices.Equal(d.Files(), files) || d.Left() != m.left() || d.Down() != m.down {
		t.Fatalf("%v, %d, %v; not %v, %d, %v", d.Files(), d.Left(), d.Down(), files, m.left(), m.down)
	}
}

func TestNew(t *testing.T) {
	for _, room := range []int{-1, math.MinInt, 1<<20 + 1, math.MaxInt} {
		if d, e := disk.New(room); d != nil || e != api.ErrArg {
			t.Errorf("room %d: %d", room, e)
		}
	}
	for _, room := range []int{0, 1, 1 << 20} {
		d, e := disk.New(room)
		if e != api.OK {
			t.Fatalf("room %d: %d", room, e)
		}
		agree(t, d, &model{room: room, fuse: -1})
	}
}

func TestAgainstModel(t *testing.T) {
	r := rand.New(rand.NewPCG(8, 1))
	for range 60 {
		room := r.IntN(200)
		d, _ := disk.New(room)
		m := &model{room: room, fuse: -1}
		for range 120 {
			file := []int{0, 1, 2, 3, 62, 63, 64, -1}[r.IntN(8)]
			var got, want api.Errno
			switch r.IntN(9) {
			case 0, 1, 2:
				b := make([]byte, r.IntN(30))
				for i := range b {
					b[i] = byte(r.Uint32())
				}
				old := bytes.Clone(b)
				got, want = d.Append(file, b), m.append(file, b)
				if !bytes.Equal(b, old) {
					t.Fatal("Append changed its bytes")
				}
				for i := range b {
					b[i]++
				}
			case 3, 4:
				got, want = d.Sync(file), m.sync(file)
			case 5, 6:
				n := r.IntN(40) - 2
				got, want = d.Cut(file, n), m.cut(file, n)
			case 7:
				n := r.IntN(12) - 2
				d.Fuse(n)
				m.fuse = max(n, -1)
			case 8:
				var kept []int
				for range r.IntN(4) {
					kept = append(kept, r.IntN(30)-5)
				}
				old := slices.Clone(kept)
				d.Crash(kept...)
				m.crash(kept)
				if !slices.Equal(kept, old) {
					t.Fatal("Crash changed its numbers")
				}
			}
			if got != want {
				t.Fatalf("%d, not %d", got, want)
			}
			agree(t, d, m)
		}
	}
}

func TestNoSuchFile(t *testing.T) {
	d, _ := disk.New(100)
	d.Fuse(0)
	for _, file := range []int{-1, 64, math.MaxInt, math.MinInt} {
		b, e := d.Read(file)
		if e != api.ErrArg || len(b) != 0 || d.Append(file, []byte{1}) != api.ErrArg || d.Sync(file) != api.ErrArg || d.Cut(file, 0) != api.ErrArg || d.Sure(file) != 0 {
			t.Errorf("file %d", file)
		}
	}
	for _, n := range []int{-1, 1, math.MaxInt, math.MinInt} {
		if e := d.Cut(5, n); e != api.ErrArg {
			t.Errorf("Cut to %d: %d", n, e)
		}
	}
	if d.Down() {
		t.Error("what is ErrArg is no step")
	}
	if e := d.Cut(5, 0); e != api.ErrDown || !d.Down() {
		t.Errorf("Cut: %d", e)
	}
}

func TestFuse(t *testing.T) {
	d, _ := disk.New(5)
	d.Fuse(3)
	for i, want := range []api.Errno{api.OK, api.ErrFull, api.OK, api.ErrDown, api.ErrDown} {
		b := []byte{1, 2}
		if i == 1 {
			b = make([]byte, 9)
		}
		if e := d.Append(0, b); e != want || d.Down() != (want == api.ErrDown) {
			t.Errorf("step %d: %d, %v", i, e, d.Down())
		}
	}
	d.Fuse(-1)
	if e := d.Sync(0); e != api.ErrDown || d.Sure(0) != 0 {
		t.Errorf("without a fuse, without power: %d", e)
	}
	d.Fuse(5)
	if !d.Down() || d.Cut(0, 1) != api.ErrDown {
		t.Error("a fuse gives power")
	}
	if b, e := d.Read(0); e != api.OK || len(b) != 4 {
		t.Errorf("without power: %v, %d", b, e)
	}
	d.Crash(1)
	if b, _ := d.Read(0); len(b) != 1 || d.Down() || d.Sure(0) != 1 {
		t.Errorf("%v, %v, %d", b, d.Down(), d.Sure(0))
	}
	for range 9 { // the crash took the fuse away
		if e := d.Sync(0); e != api.OK {
			t.Fatalf("%d", e)
		}
	}
	d.Fuse(0)
	d.Fuse(math.MinInt)
	if e := d.Sync(0); e != api.OK {
		t.Errorf("no fuse any more: %d", e)
	}
	d.Fuse(0)
	if d.Down() || d.Sync(1) != api.ErrDown || !d.Down() {
		t.Error("a fuse of 0")
	}
}

func TestFull(t *testing.T) {
	d, _ := disk.New(4)
	if e := d.Append(0, make([]byte, 5)); e != api.ErrFull {
		t.Errorf("%d", e)
	}
	if d.Append(1, make([]byte, 3)) != api.OK || d.Append(2, make([]byte, 2)) != api.ErrFull || d.Append(2, make([]byte, 1)) != api.OK || d.Left() != 0 || d.Append(3, nil) != api.OK || d.Append(3, []byte{1}) != api.ErrFull {
		t.Errorf("%v, %d", d.Files(), d.Left())
	}
	if d.Cut(1, 1) != api.OK || d.Left() != 2 || d.Append(3, make([]byte, 2)) != api.OK {
		t.Errorf("behind a cut: %d", d.Left())
	}
}

func TestExample(t *testing.T) {
	d, _ := disk.New(100)
	_ = d.Append(0, []byte("xy"))
	_ = d.Sync(0)
	_ = d.Append(0, []byte("z"))
	d.Crash()
	if b, _ := d.Read(0); string(b) != "xy" {
		t.Errorf("%q", b)
	}
}

func TestCrashKeeps(t *testing.T) {
	d, _ := disk.New(1000)
	for i := range 6 {
		_ = d.Append(i, []byte("ab"))
		_ = d.Sync(i)
		_ = d.Append(i, []byte("cdef"))
	}
	d.Crash(1, -3, 99, math.MaxInt)
	for i, want := range []string{"abc", "ab", "abcdef", "abcdef", "abc", "ab"} {
		if b, _ := d.Read(i); string(b) != want || d.Sure(i) != len(want) {
			t.Errorf("file %d: %q", i, b)
		}
	}
	d.Crash()
	if b, _ := d.Read(2); string(b) != "abcdef" {
		t.Errorf("what a crash left isn't sure: %q", b)
	}
}

func TestCutKeepsSure(t *testing.T) {
	d, _ := disk.New(100)
	_ = d.Append(7, []byte("abc"))
	_ = d.Sync(7)
	_ = d.Append(7, []byte("de"))
	_ = d.Cut(7, 4)
	if d.Sure(7) != 3 {
		t.Errorf("%d", d.Sure(7))
	}
	_ = d.Cut(7, 2)
	_ = d.Append(7, []byte("xyz"))
	if b, _ := d.Read(7); string(b) != "abxyz" || d.Sure(7) != 2 {
		t.Errorf("%q, %d", b, d.Sure(7))
	}
	d.Crash(1)
	if b, _ := d.Read(7); string(b) != "abx" {
		t.Errorf("%q", b)
	}
}

func TestReadSharesNothing(t *testing.T) {
	d, _ := disk.New(100)
	_ = d.Append(0, []byte("abc"))
	b, _ := d.Read(0)
	b[0] = 'z'
	_ = d.Cut(0, 1)
	_ = d.Append(0, []byte("q"))
	if c, _ := d.Read(0); string(c) != "aq" || string(b) != "zbc" {
		t.Errorf("%q, %q", c, b)
	}
}
