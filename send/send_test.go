package send_test

import (
	"math"
	"math/big"
	"math/rand/v2"
	"testing"

	"packetboat/api"
	"packetboat/send"
)

const top = int64(api.MaxNumber)

// model is the document's words.
type model struct {
	acked, sent int64
	quiet       int
}

func (m *model) tick(synced int64) (int64, int) {
	if synced <= m.acked {
		m.quiet = 0
		return 0, 0
	}
	end := m.acked
	for range api.MostOrder {
		if end < synced {
			end++
		}
	}
	count := func(from int64) int {
		n := 0
		for n < api.Batch && from-1+int64(n) < end {
			n++
		}
		return n
	}
	if m.sent < end {
		from := m.sent + 1
		n := count(from)
		m.sent += int64(n)
		m.quiet = 0
		return from, n
	}
	m.quiet++
	if m.quiet == api.Patience {
		m.quiet = 0
		return m.acked + 1, count(m.acked + 1)
	}
	return 0, 0
}

func (m *model) ack(to, synced int64) bool {
	if to <= m.acked || to > synced {
		return false
	}
	m.acked, m.quiet = to, 0
	if m.sent < to {
		m.sent = to
	}
	return true
}

// ask works with numbers that nothing makes wrap round.
func ask(from, to, base, synced int64) (int64, int) {
	low := big.NewInt(1)
	for _, n := range []*big.Int{big.NewInt(from), new(big.Int).Add(big.NewInt(base), big.NewInt(1))} {
		if n.Cmp(low) > 0 {
			low = n
		}
	}
	high := big.NewInt(min(to, synced))
	n := new(big.Int).Sub(high, low)
	n.Add(n, big.NewInt(1))
	if n.Sign() <= 0 {
		return 0, 0
	}
	if n.Cmp(big.NewInt(api.Batch)) > 0 {
		n.SetInt64(api.Batch)
	}
	return low.Int64(), int(n.Int64())
}

func agree(t *testing.T, s *send.Sender, m *model) {
	t.Helper()
	if s.Acked() != m.acked || s.Sent() != m.sent || s.Quiet() != m.quiet {
		t.Fatalf("%d, %d, %d; not %v", s.Acked(), s.Sent(), s.Quiet(), m)
	}
}

func TestNew(t *testing.T) {
	for _, acked := range []int64{-1, top + 1, math.MinInt64, math.MaxInt64} {
		if s, e := send.New(acked); s != nil || e != api.ErrArg {
			t.Errorf("New(%d): %d", acked, e)
		}
	}
	for _, acked := range []int64{0, 5, top} {
		s, e := send.New(acked)
		if e != api.OK {
			t.Fatalf("New(%d): %d", acked, e)
		}
		agree(t, s, &model{acked: acked, sent: acked})
	}
}

func TestExample(t *testing.T) {
	s, _ := send.New(0)
	for i, c := range []struct {
		from int64
		many int
	}{{1, 4}, {5, 2}, {0, 0}, {0, 0}, {0, 0}, {1, 4}, {0, 0}, {0, 0}, {0, 0}, {1, 4}} {
		if from, many := s.Tick(6); from != c.from || many != c.many {
			t.Errorf("tick %d: %d, %d", i, from, many)
		}
	}
}

func TestAgainstModel(t *testing.T) {
	r := rand.New(rand.NewPCG(18, 1))
	for range 200 {
		start := []int64{0, 0, 3, 100, top - 5}[r.IntN(5)]
		s, _ := send.New(start)
		m := &model{acked: start, sent: start}
		synced := start
		for range 120 {
			synced += r.Int64N(3) * r.Int64N(4)
			if r.IntN(20) == 0 {
				synced -= r.Int64N(10)
			}
			switch r.IntN(5) {
			case 0:
				to := m.acked + r.Int64N(14) - 3
				if got, want := s.Ack(to, synced), m.ack(to, synced); got != want {
					t.Fatalf("Ack(%d, %d): %v", to, synced, got)
				}
			case 1:
				from, to, base := m.acked+r.Int64N(20)-8, m.acked+r.Int64N(20)-8, m.acked-r.Int64N(6)
				low, many := s.Ask(from, to, base, synced)
				if wantLow, wantMany := ask(from, to, base, synced); low != wantLow || many != wantMany {
					t.Fatalf("Ask(%d, %d, %d, %d): %d, %d, not %d, %d", from, to, base, synced, low, many, wantLow, wantMany)
				}
			default:
				from, many := s.Tick(synced)
				if wantFrom, wantMany := m.tick(synced); from != wantFrom || many != wantMany {
					t.Fatalf("Tick(%d): %d, %d, not %d, %d", synced, from, many, wantFrom, wantMany)
				}
			}
			agree(t, s, m)
		}
	}
}

func TestAskEdges(t *testing.T) {
	s, _ := send.New(2)
	_, _ = s.Tick(7)
	numbers := []int64{math.MinInt64, math.MinInt64 + 1, -1, 0, 1, 2, 3, 5, 6, 9, top, top + 1, math.MaxInt64 - 1, math.MaxInt64}
	for _, from := range numbers {
		for _, to := range numbers {
			for _, base := range numbers {
				for _, synced := range numbers {
					low, many := s.Ask(from, to, base, synced)
					if wantLow, wantMany := ask(from, to, base, synced); low != wantLow || many != wantMany {
						t.Fatalf("Ask(%d, %d, %d, %d): %d, %d, not %d, %d", from, to, base, synced, low, many, wantLow, wantMany)
					}
				}
			}
		}
	}
	agree(t, s, &model{acked: 2, sent: 6})
}

func TestGreatNumbers(t *testing.T) {
	s, _ := send.New(0)
	m := &model{}
	for _, synced := range []int64{math.MinInt64, -1, math.MaxInt64, math.MaxInt64} {
		from, many := s.Tick(synced)
		if wantFrom, wantMany := m.tick(synced); from != wantFrom || many != wantMany {
			t.Errorf("Tick(%d): %d, %d", synced, from, many)
		}
		agree(t, s, m)
	}
	for _, to := range []int64{math.MinInt64, 0, top, math.MaxInt64 - 5, math.MaxInt64 - 9} {
		if got := s.Ack(to, math.MaxInt64); got != m.ack(to, math.MaxInt64) {
			t.Errorf("Ack(%d): %v", to, got)
		}
		agree(t, s, m)
	}
	for range 12 {
		from, many := s.Tick(math.MaxInt64)
		if wantFrom, wantMany := m.tick(math.MaxInt64); from != wantFrom || many != wantMany {
			t.Errorf("%d, %d, not %d, %d", from, many, wantFrom, wantMany)
		}
		agree(t, s, m)
	}
	if !s.Ack(math.MaxInt64, math.MaxInt64) || s.Acked() != math.MaxInt64 {
		t.Error("Ack of the greatest number")
	}
	if from, many := s.Tick(math.MaxInt64); from != 0 || many != 0 {
		t.Errorf("%d, %d", from, many)
	}
}

// TestSentAgain: between two Acks each number of the window's first batch is sent again, as long as it ticks.
func TestSentAgain(t *testing.T) {
	s, _ := send.New(10)
	seen := map[int64]int{}
	for range 30 {
		from, many := s.Tick(14)
		for i := range int64(many) {
			if n := from + i; n <= 10 || n > 14 {
				t.Fatalf("%d is sent", n)
			}
			seen[from+i]++
		}
	}
	for n := int64(11); n <= 14; n++ {
		if seen[n] < 5 {
			t.Errorf("%d is sent %d times", n, seen[n])
		}
	}
}
