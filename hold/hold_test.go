package hold_test

import (
	"math"
	"math/rand/v2"
	"slices"
	"strings"
	"testing"

	"packetboat/api"
	"packetboat/hold"
	"packetboat/txn"
)

const top = int64(api.MaxNumber)

func one(origin int, seq int64, deps api.Clock) api.Txn {
	deps[origin] = seq - 1
	return api.Txn{Origin: origin, Seq: seq, Deps: deps, Writes: []api.Write{{Key: "k", Value: "v"}}}
}

// model is the document's words.
type model struct {
	applied api.Clock
	waits   [3][]api.Txn
}

func (m *model) next(origin int) int64 {
	return m.applied[origin] + 1 + int64(len(m.waits[origin]))
}

func (m *model) peek() (api.Txn, bool) {
	for _, l := range m.waits {
		if len(l) == 0 {
			continue
		}
		d := l[0].Deps
		if m.applied[0] >= d[0] && m.applied[1] >= d[1] && m.applied[2] >= d[2] {
			return l[0], true
		}
	}
	return api.Txn{}, false
}

func (m *model) take() (api.Txn, bool) {
	t, ok := m.peek()
	if ok {
		m.waits[t.Origin] = m.waits[t.Origin][1:]
		m.applied[t.Origin]++
	}
	return t, ok
}

func agree(t *testing.T, h *hold.Hold, m *model) {
	t.Helper()
	if h.Applied() != m.applied {
		t.Fatalf("%v, not %v", h.Applied(), m.applied)
	}
	for i := range m.waits {
		if h.Waiting(i) != len(m.waits[i]) || h.Next(i) != m.next(i) {
			t.Fatalf("of %d: %d, %d", i, h.Waiting(i), h.Next(i))
		}
	}
	got, ok := h.Peek()
	if want, wantOK := m.peek(); ok != wantOK || !txn.Same(got, want) {
		t.Fatalf("Peek: %v, %v; not %v", got, ok, want)
	}
}

func TestNew(t *testing.T) {
	for _, c := range []api.Clock{{-1, 0, 0}, {0, 0, top + 1}, {0, math.MinInt64, 0}} {
		if h, e := hold.New(c); h != nil || e != api.ErrArg {
			t.Errorf("%v: %d", c, e)
		}
	}
	for _, c := range []api.Clock{{}, {top, top, top}, {1, 2, 3}} {
		h, e := hold.New(c)
		if e != api.OK {
			t.Fatalf("%v: %d", c, e)
		}
		agree(t, h, &model{applied: c})
		for _, origin := range []int{-1, 3, math.MaxInt, math.MinInt} {
			if h.Next(origin) != 0 || h.Waiting(origin) != 0 {
				t.Errorf("of %d: %d, %d", origin, h.Next(origin), h.Waiting(origin))
			}
		}
		if _, ok := h.Take(); ok || len(h.All()) != 0 {
			t.Error("something is there")
		}
	}
}

func TestExample(t *testing.T) {
	h, _ := hold.New(api.Clock{})
	a, b := one(1, 1, api.Clock{1, 0, 0}), one(0, 1, api.Clock{})
	if e := h.Put(a); e != api.OK || len(h.All()) != 0 {
		t.Fatalf("%d", e)
	}
	if e := h.Put(b); e != api.OK {
		t.Fatalf("%d", e)
	}
	if l := h.All(); len(l) != 2 || !txn.Same(l[0], b) || !txn.Same(l[1], a) || h.Applied() != (api.Clock{1, 1, 0}) {
		t.Errorf("%v", l)
	}
}

func TestPutWrong(t *testing.T) {
	h, _ := hold.New(api.Clock{2, 0, 0})
	_ = h.Put(one(0, 3, api.Clock{0, 9, 0}))
	long := one(0, 4, api.Clock{})
	long.Writes[0].Key = strings.Repeat("k", 65)
	for i, c := range []struct {
		t api.Txn
		e api.Errno
	}{
		{api.Txn{Origin: 3}, api.ErrName}, {api.Txn{Origin: -1, Seq: 1}, api.ErrName}, {api.Txn{}, api.ErrArg}, {api.Txn{Seq: 4}, api.ErrDeps}, {long, api.ErrLong},
		{one(0, 3, api.Clock{}), api.ErrGap}, {one(0, 2, api.Clock{}), api.ErrGap}, {one(0, 5, api.Clock{}), api.ErrGap}, {one(1, 2, api.Clock{}), api.ErrGap}, {one(2, 4, api.Clock{}), api.ErrGap}, {one(0, top, api.Clock{}), api.ErrGap},
	} {
		if e := h.Put(c.t); e != c.e {
			t.Errorf("case %d: %d", i, e)
		}
	}
	if h.Waiting(0) != 1 || h.Next(0) != 4 {
		t.Errorf("changed: %d, %d", h.Waiting(0), h.Next(0))
	}
	for seq := int64(4); seq < 11; seq++ {
		if e := h.Put(one(0, seq, api.Clock{})); e != api.OK {
			t.Fatalf("%d: %d", seq, e)
		}
	}
	if e := h.Put(one(0, 11, api.Clock{})); e != api.ErrFull || h.Waiting(0) != 8 || h.Next(0) != 11 {
		t.Errorf("%d, %d", e, h.Waiting(0))
	}
	if e := h.Put(one(0, 12, api.Clock{})); e != api.ErrGap {
		t.Errorf("%d", e)
	}
	if e := h.Put(one(1, 1, api.Clock{})); e != api.OK {
		t.Errorf("another one's queue: %d", e)
	}
}

func TestTop(t *testing.T) {
	h, _ := hold.New(api.Clock{top - 1, top, 0})
	if e := h.Put(one(0, top, api.Clock{0, top, 0})); e != api.OK || h.Next(0) != top+1 {
		t.Errorf("%d, %d", e, h.Next(0))
	}
	if x, ok := h.Take(); !ok || x.Seq != top || h.Applied() != (api.Clock{top, top, 0}) || h.Next(0) != top+1 {
		t.Errorf("%v, %v", x, ok)
	}
}

func TestAgainstModel(t *testing.T) {
	r := rand.New(rand.NewPCG(15, 1))
	for range 200 {
		start := api.Clock{r.Int64N(4), r.Int64N(4), r.Int64N(4)}
		h, _ := hold.New(start)
		m := &model{applied: start}
		for range 120 {
			switch r.IntN(8) {
			case 0:
				got, ok := h.Take()
				if want, wantOK := m.take(); ok != wantOK || !txn.Same(got, want) {
					t.Fatalf("Take: %v, %v; not %v", got, ok, want)
				}
			case 1:
				var want []api.Txn
				for x, ok := m.take(); ok; x, ok = m.take() {
					want = append(want, x)
				}
				if got := h.All(); !slices.EqualFunc(got, want, txn.Same) {
					t.Fatalf("All: %v, not %v", got, want)
				}
			default:
				origin := r.IntN(3)
				seq := m.next(origin)
				if r.IntN(8) == 0 {
					seq = max(seq+r.Int64N(5)-2, 1)
				}
				var deps api.Clock
				for i := range deps {
					deps[i] = max(m.applied[i]+r.Int64N(5)-3, 0)
				}
				x := one(origin, seq, deps)
				want := api.OK
				if seq != m.next(origin) {
					want = api.ErrGap
				} else if len(m.waits[origin]) == 8 {
					want = api.ErrFull
				} else {
					m.waits[origin] = append(m.waits[origin], x)
				}
				put := one(origin, seq, deps)
				if e := h.Put(put); e != want {
					t.Fatalf("Put: %d, not %d", e, want)
				}
				put.Writes[0].Key = "changed"
			}
			agree(t, h, m)
		}
	}
}

// TestWhateverOrder: all is applied at last, each behind what it depends on.
func TestWhateverOrder(t *testing.T) {
	r := rand.New(rand.NewPCG(15, 2))
	for range 100 {
		var made [3][]api.Txn
		var have api.Clock
		for range 20 {
			origin := r.IntN(3)
			if len(made[origin]) == 8 {
				continue
			}
			deps := api.Clock{r.Int64N(have[0] + 1), r.Int64N(have[1] + 1), r.Int64N(have[2] + 1)}
			made[origin] = append(made[origin], one(origin, have[origin]+1, deps))
			have[origin]++
		}
		h, _ := hold.New(api.Clock{})
		var done api.Clock
		for made[0] != nil || made[1] != nil || made[2] != nil {
			origin := r.IntN(3)
			if len(made[origin]) == 0 {
				made[origin] = nil
				continue
			}
			if e := h.Put(made[origin][0]); e != api.OK {
				t.Fatal(e)
			}
			made[origin] = made[origin][1:]
			for _, x := range h.All() {
				for i := range done {
					if done[i] < x.Deps[i] {
						t.Fatalf("%v ahead of what it depends on", x)
					}
				}
				done[x.Origin]++
				if done[x.Origin] != x.Seq {
					t.Fatalf("%v isn't the next one", x)
				}
			}
		}
		if done != have || h.Applied() != have {
			t.Fatalf("%v of %v", done, have)
		}
	}
}

func TestPeekSharesNothing(t *testing.T) {
	h, _ := hold.New(api.Clock{})
	_ = h.Put(one(0, 1, api.Clock{}))
	x, _ := h.Peek()
	x.Writes[0].Key = "changed"
	if y, ok := h.Take(); !ok || y.Writes[0].Key != "k" {
		t.Errorf("%v", y)
	}
}
