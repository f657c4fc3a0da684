package mark_test

import (
	"math"
	"math/rand/v2"
	"slices"
	"testing"

	"packetboat/api"
	"packetboat/mark"
)

const top = int64(api.MaxNumber)

// model is the document's words, without a search.
type model struct {
	marks []mark.Mark
	most  int64
}

func (x *model) add(m mark.Mark) (bool, api.Errno) {
	if m.Seq < 1 || m.Seq > top || m.File < 0 || m.File > 63 || m.At < 0 {
		return false, api.ErrArg
	}
	if m.Seq <= x.most {
		return false, api.ErrGap
	}
	x.most = m.Seq
	if n := len(x.marks); n > 0 && x.marks[n-1].File == m.File && m.Seq < x.marks[n-1].Seq+2 {
		return false, api.OK
	}
	x.marks = append(x.marks, m)
	return true, api.OK
}

func (x *model) find(seq int64) (mark.Mark, bool) {
	got, ok := mark.Mark{}, false
	for _, m := range x.marks {
		if m.Seq <= seq {
			got, ok = m, true
		}
	}
	return got, ok
}

func (x *model) only(keep func(mark.Mark) bool) int {
	var l []mark.Mark
	for _, m := range x.marks {
		if keep(m) {
			l = append(l, m)
		}
	}
	n := len(x.marks) - len(l)
	x.marks = l
	return n
}

func (x *model) drop(seq int64) int {
	found, ok := x.find(seq)
	return x.only(func(m mark.Mark) bool { return !ok || m.Seq >= found.Seq })
}

func (x *model) cut(seq int64) int {
	if x.most > seq {
		x.most = max(seq, 0)
	}
	return x.only(func(m mark.Mark) bool { return m.Seq <= seq })
}

func (x *model) files() []int {
	var l []int
	for i, m := range x.marks {
		if i == 0 || x.marks[i-1].File != m.File {
			l = append(l, m.File)
		}
	}
	return l
}

func TestExample(t *testing.T) {
	x := mark.New()
	if len(x.All()) != 0 || len(x.Files()) != 0 {
		t.Error("New")
	}
	for seq := range int64(5) {
		marked, e := x.Add(mark.Mark{Seq: seq + 1, File: 4, At: int(10 * seq)})
		if marked != (seq%2 == 0) || e != api.OK {
			t.Errorf("%d: %v, %d", seq+1, marked, e)
		}
	}
	if l := x.All(); !slices.Equal(l, []mark.Mark{{1, 4, 0}, {3, 4, 20}, {5, 4, 40}}) {
		t.Errorf("%v", l)
	}
}

func TestAgainstModel(t *testing.T) {
	r := rand.New(rand.NewPCG(10, 1))
	for range 100 {
		x, want := mark.New(), &model{}
		seq, file := int64(0), 0
		for range 80 {
			switch r.IntN(12) {
			case 0:
				n := r.Int64N(max(seq, 1)+8) - 4
				if got, want := x.Drop(n), want.drop(n); got != want {
					t.Fatalf("Drop(%d): %d, not %d", n, got, want)
				}
			case 1:
				n := r.Int64N(max(seq, 1)+8) - 4
				if got, want := x.Cut(n), want.cut(n); got != want {
					t.Fatalf("Cut(%d): %d, not %d", n, got, want)
				}
				if r.IntN(2) == 0 {
					seq = max(min(seq, n), 0)
				}
			default:
				seq += []int64{1, 1, 1, 2, 3, 0, -1}[r.IntN(7)]
				if r.IntN(5) == 0 {
					file = r.IntN(4)
				}
				m := mark.Mark{Seq: seq, File: file, At: r.IntN(100)}
				marked, e := x.Add(m)
				wantMarked, wantE := want.add(m)
				if marked != wantMarked || e != wantE {
					t.Fatalf("Add(%v): %v, %d, not %v, %d", m, marked, e, wantMarked, wantE)
				}
			}
			if !slices.Equal(x.All(), want.marks) || !slices.Equal(x.Files(), want.files()) {
				t.Fatalf("%v, %v; not %v", x.All(), x.Files(), want.marks)
			}
			for n := int64(-2); n < seq+4; n++ {
				got, ok := x.Find(n)
				if m, found := want.find(n); got != m || ok != found {
					t.Fatalf("Find(%d): %v, %v, not %v", n, got, ok, m)
				}
			}
		}
	}
}

func TestAddWrong(t *testing.T) {
	x := mark.New()
	_, _ = x.Add(mark.Mark{Seq: 5})
	_, _ = x.Add(mark.Mark{Seq: 6})
	for i, c := range []struct {
		m mark.Mark
		e api.Errno
	}{
		{mark.Mark{}, api.ErrArg}, {mark.Mark{Seq: -1}, api.ErrArg}, {mark.Mark{Seq: math.MinInt64}, api.ErrArg}, {mark.Mark{Seq: top + 1}, api.ErrArg}, {mark.Mark{Seq: math.MaxInt64}, api.ErrArg}, {mark.Mark{Seq: 9, File: -1}, api.ErrArg}, {mark.Mark{Seq: 9, File: 64}, api.ErrArg}, {mark.Mark{Seq: 9, At: -1}, api.ErrArg}, {mark.Mark{Seq: 2, File: 64}, api.ErrArg},
		{mark.Mark{Seq: 6}, api.ErrGap}, {mark.Mark{Seq: 6, File: 3}, api.ErrGap}, {mark.Mark{Seq: 1}, api.ErrGap},
	} {
		if marked, e := x.Add(c.m); marked || e != c.e {
			t.Errorf("case %d: %v, %d", i, marked, e)
		}
	}
	if l := x.All(); !slices.Equal(l, []mark.Mark{{Seq: 5}}) {
		t.Errorf("%v", l)
	}
	for i, c := range []struct {
		m      mark.Mark
		marked bool
	}{{mark.Mark{Seq: 7}, true}, {mark.Mark{Seq: 8, File: 63, At: math.MaxInt}, true}, {mark.Mark{Seq: 9, File: 63, At: 1}, false}, {mark.Mark{Seq: 10, File: 62}, true}, {mark.Mark{Seq: 20, File: 62}, true}, {mark.Mark{Seq: top - 1, File: 62}, true}, {mark.Mark{Seq: top, File: 62}, false}} {
		if marked, e := x.Add(c.m); marked != c.marked || e != api.OK {
			t.Errorf("good %d: %v, %d", i, marked, e)
		}
	}
	if got, ok := x.Find(math.MaxInt64); !ok || got.Seq != top-1 {
		t.Errorf("%v, %v", got, ok)
	}
	if got, ok := x.Find(math.MinInt64); ok || got != (mark.Mark{}) {
		t.Errorf("%v, %v", got, ok)
	}
}

func TestCutLetsComeAgain(t *testing.T) {
	x := mark.New()
	for seq := range int64(10) {
		_, _ = x.Add(mark.Mark{Seq: seq + 1})
	}
	if n := x.Cut(100); n != 0 {
		t.Errorf("%d", n)
	}
	if _, e := x.Add(mark.Mark{Seq: 10}); e != api.ErrGap {
		t.Errorf("%d", e)
	}
	if n := x.Cut(6); n != 2 { // 7 and 9
		t.Errorf("%d", n)
	}
	if _, e := x.Add(mark.Mark{Seq: 6}); e != api.ErrGap {
		t.Errorf("%d", e)
	}
	if marked, e := x.Add(mark.Mark{Seq: 7}); !marked || e != api.OK {
		t.Errorf("%v, %d", marked, e)
	}
	if n := x.Cut(-5); n != 4 || len(x.All()) != 0 {
		t.Errorf("%d", n)
	}
	if marked, e := x.Add(mark.Mark{Seq: 1}); !marked || e != api.OK {
		t.Errorf("%v, %d", marked, e)
	}
	_, _ = x.Add(mark.Mark{Seq: 2})
	if n := x.Cut(0); n != 1 {
		t.Errorf("%d", n)
	}
	if marked, e := x.Add(mark.Mark{Seq: 1}); !marked || e != api.OK {
		t.Errorf("%v, %d", marked, e)
	}
}

func TestDrop(t *testing.T) {
	x := mark.New()
	for seq := range int64(9) {
		_, _ = x.Add(mark.Mark{Seq: seq + 3})
	}
	for i, c := range []struct {
		seq  int64
		want int
	}{{2, 0}, {-9, 0}, {3, 0}, {4, 0}, {8, 2}, {8, 0}, {6, 0}, {100, 2}, {100, 0}} {
		if n := x.Drop(c.seq); n != c.want {
			t.Errorf("case %d: %d", i, n)
		}
	}
	if l := x.All(); !slices.Equal(l, []mark.Mark{{Seq: 11}}) {
		t.Errorf("%v", l)
	}
	if _, ok := x.Find(10); ok {
		t.Error("what is dropped is found")
	}
	if _, e := x.Add(mark.Mark{Seq: 5}); e != api.ErrGap {
		t.Errorf("%d", e)
	}
}

func TestSharesNothing(t *testing.T) {
	x := mark.New()
	_, _ = x.Add(mark.Mark{Seq: 1})
	_, _ = x.Add(mark.Mark{Seq: 3})
	x.All()[0].Seq = 9
	_ = append(x.All()[:1], mark.Mark{Seq: 7})
	if l := x.All(); !slices.Equal(l, []mark.Mark{{Seq: 1}, {Seq: 3}}) {
		t.Errorf("%v", l)
	}
}

// TestNear: of a number that came Find tells a mark that is near, if all came one by one, in one file.
func TestNear(t *testing.T) {
	x := mark.New()
	for seq := int64(4); seq < 40; seq++ {
		_, _ = x.Add(mark.Mark{Seq: seq, File: 1})
		for n := int64(4); n <= seq; n++ {
			if m, ok := x.Find(n); !ok || n-m.Seq > api.Every-1 {
				t.Fatalf("Find(%d): %v, %v", n, m, ok)
			}
		}
	}
}
