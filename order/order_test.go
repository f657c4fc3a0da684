package order_test

import (
	"math"
	"math/rand/v2"
	"slices"
	"strings"
	"testing"

	"packetboat/api"
	"packetboat/order"
	"packetboat/txn"
)

const top = int64(api.MaxNumber)

func one(origin int, seq int64) api.Txn {
	t := api.Txn{Origin: origin, Seq: seq, Writes: []api.Write{{Key: "k", Value: "v"}}}
	t.Deps[origin] = seq - 1
	return t
}

func seqs(l []api.Txn) []int64 {
	var n []int64
	for _, t := range l {
		n = append(n, t.Seq)
	}
	return n
}

// model is the document's words: a number up to which all came, and numbers that are held.
type model struct {
	have int64
	held []int64
}

func (m *model) put(seq int64) (int, []int64) {
	switch {
	case seq <= m.have || slices.Contains(m.held, seq):
		return order.Old, nil
	case seq > m.have+1 && len(m.held) == 8:
		return order.Full, nil
	}
	m.held = append(m.held, seq)
	slices.Sort(m.held)
	if seq > m.have+1 {
		return order.Held, nil
	}
	var l []int64
	for len(m.held) > 0 && m.held[0] == m.have+1 {
		l = append(l, m.held[0])
		m.have++
		m.held = m.held[1:]
	}
	return order.Next, l
}

func agree(t *testing.T, b *order.Buffer, m *model) {
	t.Helper()
	if b.Have() != m.have || !slices.Equal(b.Numbers(), m.held) {
		t.Fatalf("%d, %v; not %d, %v", b.Have(), b.Numbers(), m.have, m.held)
	}
	from, to, ok := b.Gap()
	if len(m.held) == 0 {
		if from != 0 || to != 0 || ok {
			t.Fatalf("Gap: %d, %d, %v", from, to, ok)
		}
	} else if from != m.have+1 || to != m.held[0]-1 || !ok {
		t.Fatalf("Gap: %d, %d, %v", from, to, ok)
	}
}

func TestKinds(t *testing.T) {
	if l := []int{order.Odd, order.Old, order.Next, order.Held, order.Full}; !slices.Equal(l, []int{0, 1, 2, 3, 4}) {
		t.Errorf("%v", l)
	}
}

func TestNew(t *testing.T) {
	for i, c := range []struct {
		origin int
		have   int64
		e      api.Errno
	}{
		{-1, -1, api.ErrName}, {3, 0, api.ErrName}, {math.MaxInt, 0, api.ErrName}, {0, -1, api.ErrArg}, {0, top + 1, api.ErrArg}, {0, math.MinInt64, api.ErrArg}, {0, 0, api.OK}, {2, top, api.OK}, {1, 7, api.OK},
	} {
		b, e := order.New(c.origin, c.have)
		if e != c.e || (b == nil) != (e != api.OK) {
			t.Fatalf("case %d: %d", i, e)
		}
		if b != nil {
			agree(t, b, &model{have: c.have})
		}
	}
}

func TestExample(t *testing.T) {
	b, _ := order.New(0, 0)
	for i, c := range []struct {
		seq  int64
		fate int
		want []int64
	}{{2, order.Held, nil}, {3, order.Held, nil}, {1, order.Next, []int64{1, 2, 3}}, {2, order.Old, nil}, {4, order.Next, []int64{4}}} {
		fate, l := b.Put(one(0, c.seq))
		if fate != c.fate || !slices.Equal(seqs(l), c.want) {
			t.Errorf("case %d: %d, %v", i, fate, l)
		}
	}
}

func TestAgainstModel(t *testing.T) {
	r := rand.New(rand.NewPCG(14, 1))
	for range 200 {
		origin := r.IntN(3)
		start := r.Int64N(5)
		b, _ := order.New(origin, start)
		m := &model{have: start}
		for range 150 {
			if r.IntN(25) == 0 {
				have := m.have + r.Int64N(8) - 6
				want := have >= 0 && have <= m.have
				if b.Back(have) != want {
					t.Fatalf("Back(%d): %v", have, !want)
				}
				if want {
					m.have, m.held = have, nil
				}
				agree(t, b, m)
				continue
			}
			seq := max(m.have+r.Int64N(14)-3, 1)
			fate, l := b.Put(one(origin, seq))
			wantFate, want := m.put(seq)
			if fate != wantFate || !slices.Equal(seqs(l), want) {
				t.Fatalf("Put(%d): %d, %v; not %d, %v", seq, fate, seqs(l), wantFate, want)
			}
			for _, x := range l {
				if !txn.Same(x, one(origin, x.Seq)) {
					t.Fatalf("%v", x)
				}
			}
			agree(t, b, m)
		}
	}
}

func TestOdd(t *testing.T) {
	b, _ := order.New(1, 3)
	_, _ = b.Put(one(1, 6))
	long := one(1, 4)
	long.Writes[0].Value = strings.Repeat("v", 257)
	for i, x := range []api.Txn{{}, one(0, 4), one(2, 4), one(0, 1), one(0, 6), {Origin: 1, Seq: 4}, {Origin: 1}, {Origin: 1, Seq: -5, Deps: api.Clock{0, -6}}, {Origin: 7, Seq: 4}, {Origin: 1, Seq: 2}, long} {
		if fate, l := b.Put(x); fate != order.Odd || len(l) != 0 {
			t.Errorf("case %d: %d", i, fate)
		}
	}
	agree(t, b, &model{have: 3, held: []int64{6}})
}

func TestFull(t *testing.T) {
	b, _ := order.New(0, 0)
	for seq := int64(3); seq < 11; seq++ {
		if fate, _ := b.Put(one(0, seq)); fate != order.Held {
			t.Fatalf("%d: %d", seq, fate)
		}
	}
	for _, c := range []struct {
		seq  int64
		fate int
	}{{11, order.Full}, {2, order.Full}, {top, order.Full}, {3, order.Old}, {10, order.Old}} {
		if fate, l := b.Put(one(0, c.seq)); fate != c.fate || len(l) != 0 {
			t.Errorf("%d: %d", c.seq, fate)
		}
	}
	if fate, l := b.Put(one(0, 1)); fate != order.Next || len(l) != 1 {
		t.Errorf("%d, %v", fate, l)
	}
	if fate, l := b.Put(one(0, 2)); fate != order.Next || len(l) != 9 || len(b.Numbers()) != 0 {
		t.Errorf("%d, %v", fate, l)
	}
}

func TestEnds(t *testing.T) {
	b, _ := order.New(0, top-2)
	if fate, _ := b.Put(one(0, top)); fate != order.Held {
		t.Errorf("%d", fate)
	}
	if fate, l := b.Put(one(0, top-1)); fate != order.Next || len(l) != 2 || b.Have() != top {
		t.Errorf("%d, %v", fate, l)
	}
	for i, c := range []struct {
		have int64
		want bool
	}{{-1, false}, {math.MinInt64, false}, {math.MaxInt64, false}, {top, true}, {5, true}, {6, false}, {0, true}, {1, false}} {
		if b.Back(c.have) != c.want {
			t.Errorf("case %d", i)
		}
	}
	_, _ = b.Put(one(0, 4))
	if b.Back(1) || len(b.Numbers()) != 1 {
		t.Error("changed")
	}
	if !b.Back(0) || len(b.Numbers()) != 0 {
		t.Error("holds still")
	}
}

// TestSharesNothing: neither what came nor what is told is kept.
func TestSharesNothing(t *testing.T) {
	b, _ := order.New(0, 0)
	second, first := one(0, 2), one(0, 1)
	_, _ = b.Put(second)
	second.Writes[0].Key = "changed"
	_, l := b.Put(first)
	if len(l) != 2 || l[0].Writes[0].Key != "k" || l[1].Writes[0].Key != "k" {
		t.Fatalf("%v", l)
	}
	l[0].Writes[0].Key = "changed"
	if first.Writes[0].Key != "k" {
		t.Error("what is told is what came")
	}
	_, _ = b.Put(one(0, 5))
	b.Numbers()[0] = 3
	if from, to, _ := b.Gap(); from != 3 || to != 4 {
		t.Errorf("%d, %d", from, to)
	}
}
