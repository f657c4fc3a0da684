package sink_test

import (
	"bytes"
	"fmt"
	"math"
	"math/rand/v2"
	"slices"
	"strings"
	"testing"

	"packetboat/api"
	"packetboat/crc"
	"packetboat/disk"
	"packetboat/hold"
	"packetboat/keep"
	"packetboat/mail"
	"packetboat/order"
	"packetboat/sink"
	"packetboat/txn"
)

func opened(t *testing.T, room int) (*sink.Sink, *disk.Disk) {
	t.Helper()
	d, _ := disk.New(room)
	s, e := sink.Open(d)
	if e != api.OK {
		t.Fatal(e)
	}
	return s, d
}

func one(origin int, seq int64, deps api.Clock) api.Txn {
	deps[origin] = seq - 1
	return api.Txn{Origin: origin, Seq: seq, Deps: deps, Writes: []api.Write{{Key: "k", Value: fmt.Sprint(origin, seq)}}}
}

// row are transactions of an origin from a number on, that depend on nothing else.
func row(origin int, from int64, many int) []api.Txn {
	var l []api.Txn
	for i := range int64(many) {
		l = append(l, one(origin, from+i, api.Clock{}))
	}
	return l
}

func data(l ...api.Txn) []byte {
	b, e := mail.Put(mail.Msg{Kind: mail.Data, Origin: l[0].Origin, Txns: l})
	if e != api.OK {
		panic(e)
	}
	return b
}

// told are letters as texts.
func told(t *testing.T, l []sink.Letter) []string {
	t.Helper()
	var texts []string
	for _, x := range l {
		m, e := mail.Take(x.Body)
		if e != api.OK || m.Origin != x.To {
			t.Fatalf("a letter to %d: %v, %d", x.To, m, e)
		}
		switch m.Kind {
		case mail.Ack:
			texts = append(texts, fmt.Sprint("ack ", m.Origin, " ", m.To))
		case mail.Ask:
			texts = append(texts, fmt.Sprint("ask ", m.Origin, " ", m.From, " ", m.To))
		default:
			t.Fatalf("%v", m)
		}
	}
	return texts
}

func take(t *testing.T, s *sink.Sink, want string, l ...api.Txn) {
	t.Helper()
	got, e := s.Take(data(l...))
	if e != api.OK || !slices.Equal(told(t, got), []string{want}) {
		t.Fatalf("%q, %d, not %q", told(t, got), e, want)
	}
}

func tick(t *testing.T, s *sink.Sink, want ...string) {
	t.Helper()
	if got := told(t, s.Tick()); !slices.Equal(got, want) {
		t.Fatalf("%q, not %q", got, want)
	}
}

func TestExample(t *testing.T) {
	s, _ := opened(t, 1<<12)
	take(t, s, "ack 1 0", row(1, 2, 1)...)
	if s.Have(1) != 0 || s.Held(1) != 1 || s.Waiting(1) != 0 {
		t.Errorf("%d, %d, %d", s.Have(1), s.Held(1), s.Waiting(1))
	}
	take(t, s, "ack 1 2", row(1, 1, 1)...)
	if s.Have(1) != 2 || s.Held(1) != 0 || s.Keep().Applied() != (api.Clock{0, 2, 0}) {
		t.Errorf("%d, %d, %v", s.Have(1), s.Held(1), s.Keep().Applied())
	}
	take(t, s, "ack 1 2", row(1, 1, 2)...) // a letter that came twice
	if l := s.Keep().All(); !slices.EqualFunc(l, row(1, 1, 2), txn.Same) {
		t.Errorf("%v", l)
	}
}

func TestOpen(t *testing.T) {
	if s, e := sink.Open(nil); s != nil || e != api.ErrArg {
		t.Errorf("%d", e)
	}
	d, _ := disk.New(1 << 12)
	_ = d.Append(0, []byte{128, 0})
	if s, e := sink.Open(d); s != nil || e != api.ErrSum {
		t.Errorf("%d", e)
	}
	d.Fuse(0)
	_ = d.Sync(0)
	if s, e := sink.Open(d); s != nil || e != api.ErrDown {
		t.Errorf("%d", e)
	}
	s, d := opened(t, 1<<12)
	take(t, s, "ack 1 3", row(1, 1, 3)...)
	take(t, s, "ack 2 1", row(2, 1, 1)...)
	take(t, s, "ack 0 0", row(0, 5, 2)...)
	d.Crash()
	s, e := sink.Open(d)
	if e != api.OK || s.Have(1) != 3 || s.Have(2) != 1 || s.Have(0) != 0 || s.Held(0) != 0 || s.Keep().Applied() != (api.Clock{0, 3, 1}) || s.Down() {
		t.Fatalf("%d", e)
	}
	take(t, s, "ack 1 4", row(1, 3, 2)...)
	for _, origin := range []int{-1, 3, math.MaxInt, math.MinInt} {
		if s.Have(origin) != 0 || s.Held(origin) != 0 || s.Waiting(origin) != 0 {
			t.Errorf("of %d", origin)
		}
	}
}

func TestTakeWrong(t *testing.T) {
	s, d := opened(t, 1<<12)
	take(t, s, "ack 0 0", row(0, 2, 1)...)
	ack, _ := mail.Put(mail.Msg{Kind: mail.Ack, Origin: 1, To: 3})
	ask, _ := mail.Put(mail.Msg{Kind: mail.Ask, Origin: 1, From: 3, To: 3})
	left := d.Left()
	for i, c := range []struct {
		b []byte
		e api.Errno
	}{
		{nil, api.ErrShort}, {crc.Turn(data(row(0, 1, 1)...), 40, 3), api.ErrSum}, {crc.Seal([]byte{7}), api.ErrForm}, {crc.Seal([]byte{1, 9}), api.ErrName}, {ack, api.ErrForm}, {ask, api.ErrForm},
	} {
		if l, e := s.Take(c.b); e != c.e || len(l) != 0 {
			t.Errorf("case %d: %v, %d", i, l, e)
		}
		if s.Have(0) != 0 || s.Held(0) != 1 || d.Left() != left {
			t.Errorf("case %d: changed", i)
		}
	}
}

func TestWaitsForOthers(t *testing.T) {
	s, _ := opened(t, 1<<12)
	take(t, s, "ack 2 0", one(2, 1, api.Clock{0, 2, 0}), one(2, 2, api.Clock{}))
	take(t, s, "ack 1 1", row(1, 1, 1)...)
	if s.Waiting(2) != 2 || s.Have(2) != 2 {
		t.Errorf("%d, %d", s.Waiting(2), s.Have(2))
	}
	take(t, s, "ack 1 2", row(1, 2, 1)...)
	if s.Waiting(2) != 0 || s.Keep().Applied() != (api.Clock{0, 2, 2}) {
		t.Errorf("%d, %v", s.Waiting(2), s.Keep().Applied())
	}
	tick(t, s, "ack 0 0", "ack 1 2", "ack 2 2")
}

func TestAsks(t *testing.T) {
	s, _ := opened(t, 1<<12)
	acks := []string{"ack 0 0", "ack 1 0", "ack 2 0"}
	tick(t, s, acks...)
	take(t, s, "ack 2 0", row(2, 4, 1)...)
	tick(t, s, acks...) // tick 2: it is due at 6
	take(t, s, "ack 1 0", row(1, 3, 2)...)
	tick(t, s, acks...) // tick 3: due at 7
	tick(t, s, acks...)
	take(t, s, "ack 2 1", row(2, 1, 1)...)
	acks[2] = "ack 2 1"
	tick(t, s, acks...)
	tick(t, s, append(slices.Clone(acks), "ask 2 2 3")...) // tick 6, again at 10
	tick(t, s, append(slices.Clone(acks), "ask 1 1 2")...) // tick 7, again at 11
	for range 2 {
		tick(t, s, acks...)
	}
	tick(t, s, append(slices.Clone(acks), "ask 2 2 3")...)
	tick(t, s, append(slices.Clone(acks), "ask 1 1 2")...)
	take(t, s, "ack 2 4", row(2, 2, 2)...) // no gap any more
	acks[2] = "ack 2 4"
	for range 3 {
		tick(t, s, acks...)
	}
	tick(t, s, append(slices.Clone(acks), "ask 1 1 2")...) // tick 15
	take(t, s, "ack 2 4", row(2, 6, 1)...)
	take(t, s, "ack 0 0", row(0, 2, 1)...)
	for range 3 { // what was stopped begins anew: at 16, due at 20
		tick(t, s, acks...)
	}
	tick(t, s, append(slices.Clone(acks), "ask 1 1 2")...)              // tick 19
	tick(t, s, append(slices.Clone(acks), "ask 0 1 1", "ask 2 5 5")...) // tick 20
	for range 2 {
		tick(t, s, acks...)
	}
	tick(t, s, append(slices.Clone(acks), "ask 1 1 2")...) // tick 23
}

// TestAskOrder: of two that are due at one tick the one that was set ahead is asked ahead.
func TestAskOrder(t *testing.T) {
	s, _ := opened(t, 60)
	for origin := range 3 {
		take(t, s, fmt.Sprint("ack ", origin, " 0"), row(origin, 2, 1)...)
	}
	acks := []string{"ack 0 0", "ack 1 0", "ack 2 0"}
	for range 4 {
		tick(t, s, acks...)
	}
	tick(t, s, append(acks, "ask 0 1 1", "ask 1 1 1", "ask 2 1 1")...)
}

// TestHoldFull: what finds no place in the hold has to come once more, and the letter's next one comes all the same.
func TestHoldFull(t *testing.T) {
	s, _ := opened(t, 1<<14)
	first := one(1, 1, api.Clock{1, 0, 0})
	take(t, s, "ack 1 0", append([]api.Txn{first}, row(1, 2, 3)...)...)
	take(t, s, "ack 1 0", row(1, 5, 3)...)
	if s.Waiting(1) != 7 || s.Have(1) != 7 {
		t.Fatalf("%d, %d", s.Waiting(1), s.Have(1))
	}
	take(t, s, "ack 1 0", row(1, 8, 4)...) // 8 waits; 9 is full, back to 8; 10 and 11 are held
	if s.Waiting(1) != 8 || s.Have(1) != 8 || s.Held(1) != 2 {
		t.Fatalf("%d, %d, %d", s.Waiting(1), s.Have(1), s.Held(1))
	}
	take(t, s, "ack 1 0", row(1, 9, 1)...) // 9 to 11 are in order; 9 is full: what was held is dropped
	if s.Waiting(1) != 8 || s.Have(1) != 8 || s.Held(1) != 0 {
		t.Fatalf("%d, %d, %d", s.Waiting(1), s.Have(1), s.Held(1))
	}
	take(t, s, "ack 0 1", row(0, 1, 1)...)
	tick(t, s, "ack 0 1", "ack 1 8", "ack 2 0")
	if s.Waiting(1) != 0 || s.Have(1) != 8 {
		t.Fatalf("%d, %d", s.Waiting(1), s.Have(1))
	}
	take(t, s, "ack 1 11", row(1, 9, 3)...)
}

// TestAppliesOneByOne: what a transaction of a letter lets be applied is, ahead of the letter's next one.
func TestAppliesOneByOne(t *testing.T) {
	s, _ := opened(t, 1<<14)
	take(t, s, "ack 0 0", row(0, 3, 4)...)
	take(t, s, "ack 0 0", row(0, 7, 4)...)
	if s.Held(0) != 8 {
		t.Fatalf("%d", s.Held(0))
	}
	take(t, s, "ack 0 9", row(0, 1, 2)...) // 1 is applied; then 2 to 9 find a place, and 10 doesn't
	if s.Have(0) != 9 || s.Held(0) != 0 {
		t.Errorf("%d, %d", s.Have(0), s.Held(0))
	}
}

func TestDown(t *testing.T) {
	s, d := opened(t, 1<<14)
	take(t, s, "ack 0 1", row(0, 1, 1)...)
	take(t, s, "ack 1 0", row(1, 2, 1)...)
	d.Fuse(3) // one is applied, and of the other one's two steps the first
	if l, e := s.Take(data(row(0, 2, 3)...)); e != api.ErrDown || len(l) != 0 || !s.Down() {
		t.Fatalf("%v, %d", l, e)
	}
	if s.Keep().Applied() != (api.Clock{2, 0, 0}) || s.Have(0) != 4 || s.Waiting(0) != 2 {
		t.Errorf("%v, %d, %d", s.Keep().Applied(), s.Have(0), s.Waiting(0))
	}
	for _, b := range [][]byte{data(row(2, 1, 1)...), nil, {1}} {
		if l, e := s.Take(b); e != api.ErrDown || len(l) != 0 {
			t.Errorf("%v, %d", l, e)
		}
	}
	for range 9 {
		if l := s.Tick(); len(l) != 0 {
			t.Errorf("one that is down sends: %v", l)
		}
	}
	if s.Have(2) != 0 || !s.Down() {
		t.Errorf("%d", s.Have(2))
	}
	d.Crash(1000)
	s, e := sink.Open(d)
	if e != api.OK || s.Keep().Applied() != (api.Clock{3, 0, 0}) || s.Have(0) != 3 {
		t.Errorf("%d, %v", e, s.Keep().Applied())
	}
}

// TestTickApplies: what a full disk kept from being applied is at a tick, when there is room; and a tick may be its last.
func TestTickApplies(t *testing.T) {
	s, d := opened(t, 200)
	_ = d.Append(5, make([]byte, 195))
	take(t, s, "ack 0 0", row(0, 1, 2)...)
	if s.Waiting(0) != 2 || s.Down() {
		t.Fatalf("%d", s.Waiting(0))
	}
	tick(t, s, "ack 0 0", "ack 1 0", "ack 2 0")
	_ = d.Cut(5, 0)
	tick(t, s, "ack 0 2", "ack 1 0", "ack 2 0")
	_ = d.Append(5, make([]byte, d.Left()))
	take(t, s, "ack 0 2", row(0, 3, 1)...)
	d.Fuse(0)
	if l := s.Tick(); len(l) != 0 || !s.Down() {
		t.Errorf("%v", l)
	}
}

func TestLettersShareNothing(t *testing.T) {
	s, _ := opened(t, 1<<12)
	b := data(row(0, 1, 1)...)
	old := bytes.Clone(b)
	l, _ := s.Take(b)
	l[0].Body[0]++
	if !bytes.Equal(b, old) {
		t.Error("changed")
	}
	for i := range b {
		b[i] = 0
	}
	if l := s.Keep().All(); len(l) != 1 || !txn.Same(l[0], row(0, 1, 1)[0]) {
		t.Errorf("%v", l)
	}
}

// twin is the document's words, by the layers below.
type twin struct {
	keep    *keep.Keep
	hold    *hold.Hold
	buffers [3]*order.Buffer
	due     map[int]int64 // by origins
	set     map[int]int   // when each was set
	count   int
	clock   int64
}

func newTwin(d *disk.Disk) *twin {
	k, e := keep.Open(d)
	if e != api.OK {
		panic(e)
	}
	x := &twin{keep: k, due: map[int]int64{}, set: map[int]int{}}
	x.hold, _ = hold.New(k.Applied())
	for i, n := range k.Applied() {
		x.buffers[i], _ = order.New(i, n)
	}
	return x
}

func (x *twin) apply() {
	for t, ok := x.hold.Peek(); ok && x.keep.Apply(t) == api.OK; t, ok = x.hold.Peek() {
		x.hold.Take()
	}
}

func (x *twin) take(l []api.Txn) ([]string, api.Errno) {
	if x.keep.Broken() {
		return nil, api.ErrDown
	}
	for _, t := range l {
		_, next := x.buffers[t.Origin].Put(t)
		for _, y := range next {
			if x.hold.Put(y) != api.OK {
				x.buffers[t.Origin].Back(x.hold.Next(t.Origin) - 1)
				break
			}
		}
		x.apply()
	}
	if x.keep.Broken() {
		return nil, api.ErrDown
	}
	return []string{fmt.Sprint("ack ", l[0].Origin, " ", x.keep.Applied()[l[0].Origin])}, api.OK
}

func (x *twin) later(origin int) {
	x.count++
	x.due[origin], x.set[origin] = x.clock+4, x.count
}

func (x *twin) tick() []string {
	if x.keep.Broken() {
		return nil
	}
	x.clock++
	x.apply()
	if x.keep.Broken() {
		return nil
	}
	var l []string
	for i, b := range x.buffers {
		l = append(l, fmt.Sprint("ack ", i, " ", x.keep.Applied()[i]))
		_, _, gap := b.Gap()
		_, there := x.due[i]
		if gap && !there {
			x.later(i)
		} else if !gap {
			delete(x.due, i)
		}
	}
	var now []int
	for i, at := range x.due {
		if at <= x.clock {
			now = append(now, i)
		}
	}
	slices.SortFunc(now, func(i, j int) int { return x.set[i] - x.set[j] }) // none is due earlier than a tick ago
	for _, i := range now {
		from, to, _ := x.buffers[i].Gap()
		l = append(l, fmt.Sprint("ask ", i, " ", from, " ", to))
		x.later(i)
	}
	return l
}

func TestAgainstTwin(t *testing.T) {
	r := rand.New(rand.NewPCG(20, 1))
	for range 80 {
		room := []int{1 << 16, 600}[r.IntN(2)]
		s, d := opened(t, room)
		other, _ := disk.New(room)
		x := newTwin(other)
		var made [3][]api.Txn
		for range 40 {
			origin := r.IntN(3)
			deps := api.Clock{}
			for i := range deps {
				deps[i] = r.Int64N(int64(len(made[i])) + 1)
			}
			made[origin] = append(made[origin], one(origin, int64(len(made[origin]))+1, deps))
		}
		for range 200 {
			switch r.IntN(10) {
			case 0, 1, 2:
				if got, want := told(t, s.Tick()), x.tick(); !slices.Equal(got, want) {
					t.Fatalf("Tick: %q, not %q", got, want)
				}
			case 3:
				if r.IntN(5) == 0 {
					n := r.IntN(6)
					d.Fuse(n)
					other.Fuse(n)
				}
				if x.keep.Broken() {
					kept := r.IntN(100)
					d.Crash(kept)
					other.Crash(kept)
					s, _ = sink.Open(d)
					x = newTwin(other)
				}
			default:
				origin := r.IntN(3)
				from := int(max(x.buffers[origin].Have()+r.Int64N(10)-3, 0))
				if from >= len(made[origin]) {
					continue
				}
				l := made[origin][from:min(from+1+r.IntN(4), len(made[origin]))]
				letters, e := s.Take(data(l...))
				want, wantE := x.take(l)
				if e != wantE || !slices.Equal(told(t, letters), want) {
					t.Fatalf("Take: %q, %d, not %q, %d", told(t, letters), e, want, wantE)
				}
			}
			for i, b := range x.buffers {
				if s.Have(i) != b.Have() || s.Held(i) != len(b.Numbers()) || s.Waiting(i) != x.hold.Waiting(i) {
					t.Fatalf("of %d: %d, %d, %d; not %d, %d, %d", i, s.Have(i), s.Held(i), s.Waiting(i), b.Have(), len(b.Numbers()), x.hold.Waiting(i))
				}
			}
			if s.Down() != x.keep.Broken() || !slices.EqualFunc(s.Keep().All(), x.keep.All(), txn.Same) {
				t.Fatalf("%v, %v; not %v, %v", s.Down(), s.Keep().Applied(), x.keep.Broken(), x.keep.Applied())
			}
		}
	}
}

func TestLongValues(t *testing.T) {
	s, _ := opened(t, 1<<16)
	x := one(0, 1, api.Clock{})
	for len(x.Writes) < api.MostWrites {
		x.Writes = append(x.Writes, api.Write{Key: strings.Repeat("k", 60) + fmt.Sprint(len(x.Writes)), Value: strings.Repeat("v", 256)})
	}
	take(t, s, "ack 0 1", x)
	if l := s.Keep().All(); !txn.Same(l[0], x) {
		t.Error("not as it was sent")
	}
}
