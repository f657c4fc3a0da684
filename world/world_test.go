package world_test

import (
	"bytes"
	"fmt"
	"math"
	"math/rand/v2"
	"slices"
	"strings"
	"testing"

	"packetboat/api"
	"packetboat/disk"
	"packetboat/kv"
	"packetboat/mail"
	"packetboat/net"
	"packetboat/origin"
	"packetboat/script"
	"packetboat/sink"
	"packetboat/txn"
	"packetboat/world"
)

const sinkWho = api.Origins

func made(t *testing.T, room int) *world.World {
	t.Helper()
	w, e := world.New(room)
	if e != api.OK {
		t.Fatal(e)
	}
	return w
}

func commit(who int, deps api.Clock, n int) script.Item {
	return script.Item{Do: script.Commit, Who: who, Deps: deps, Writes: []api.Write{{Key: fmt.Sprint("k", n%7), Value: strings.Repeat("v", n)}}}
}

func do(t *testing.T, w *world.World, l ...script.Item) {
	t.Helper()
	for i, x := range l {
		if e := w.Do(x); e != api.OK {
			t.Fatalf("item %d, %v: %d", i, x, e)
		}
	}
}

// beginning tells whether a is a beginning of b.
func beginning(a, b []api.Txn) bool {
	return len(a) <= len(b) && slices.EqualFunc(a, b[:len(a)], txn.Same)
}

// sound holds the world against the promises of the whole.
func sound(t *testing.T, w *world.World) {
	t.Helper()
	applied := w.Sink().Keep().All()
	var have api.Clock
	var of [api.Origins][]api.Txn
	for _, x := range applied {
		for i, n := range x.Deps {
			if have[i] < n {
				t.Fatalf("%v is applied ahead of what it depends on", x)
			}
		}
		have[x.Origin]++
		of[x.Origin] = append(of[x.Origin], x)
	}
	if have != w.Sink().Keep().Applied() {
		t.Fatalf("%v, not %v", w.Sink().Keep().Applied(), have)
	}
	if !bytes.Equal(w.Sink().Keep().State().Text(), kv.Fold(applied).Text()) {
		t.Fatal("the store isn't what they leave")
	}
	for i := range api.Origins {
		log := w.Origin(i).Log()
		committed := w.Committed(i)
		if !beginning(of[i], committed) {
			t.Fatalf("of %d is applied what isn't a beginning of what it committed", i)
		}
		if int64(len(committed)) != log.Next()-1 || log.Synced() < have[i] || log.Base() > have[i] {
			t.Fatalf("of %d: %d committed, next %d, synced %d, base %d, applied %d", i, len(committed), log.Next(), log.Synced(), log.Base(), have[i])
		}
		if l, e := log.Range(log.Base()+1, math.MaxInt); e == api.OK && !slices.EqualFunc(l, committed[log.Base():], txn.Same) {
			t.Fatalf("the log of %d isn't what it committed", i)
		}
		if w.Sink().Held(i) > api.MostOrder || w.Sink().Waiting(i) > api.MostHold {
			t.Fatalf("of %d are held %d, wait %d", i, w.Sink().Held(i), w.Sink().Waiting(i))
		}
	}
	if w.Net().Len() > api.MostMail {
		t.Fatalf("%d letters", w.Net().Len())
	}
	for _, l := range w.Net().All() {
		m, e := mail.Take(l.Body)
		if e != api.OK {
			continue // spoilt
		}
		for _, x := range m.Txns {
			if log := w.Origin(x.Origin).Log(); x.Seq > log.Synced() || !txn.Same(x, w.Committed(x.Origin)[x.Seq-1]) {
				t.Fatalf("%v is sent, that isn't synced", x)
			}
		}
	}
}

func TestExample(t *testing.T) {
	w := made(t, 1<<16)
	errnos := w.Run([]script.Item{commit(0, api.Clock{}, 1), {Do: script.Sync}, {Do: script.Tick}, {Do: script.Deliver}})
	if !slices.Equal(errnos, make([]api.Errno, 4)) || w.Sink().Keep().Applied() != (api.Clock{1, 0, 0}) {
		t.Errorf("%v, %v", errnos, w.Sink().Keep().Applied())
	}
	sound(t, w)
	if l := w.Run(nil); len(l) != 0 {
		t.Errorf("%v", l)
	}
}

func TestNew(t *testing.T) {
	for _, room := range []int{-1, 1<<20 + 1, math.MinInt, math.MaxInt} {
		if w, e := world.New(room); w != nil || e != api.ErrArg {
			t.Errorf("room %d: %d", room, e)
		}
	}
	for _, room := range []int{0, 70, 1 << 20} {
		w := made(t, room)
		for i := range 4 {
			if d := w.Disk(i); d == nil || d.Left() != room {
				t.Errorf("disk %d", i)
			}
		}
		for i := range 3 {
			if o := w.Origin(i); o == nil || o.Log().Next() != 1 {
				t.Errorf("origin %d", i)
			}
			if l := w.Committed(i); len(l) != 0 {
				t.Errorf("%v", l)
			}
		}
		if !w.Settled() || w.Calm(9) != 0 || w.Net().Len() != 0 || w.Sink().Down() {
			t.Error("not settled")
		}
	}
	w := made(t, 100)
	for _, i := range []int{-1, 4, math.MinInt, math.MaxInt} {
		if w.Origin(i) != nil || w.Disk(i) != nil || w.Committed(i) != nil {
			t.Errorf("there is a %d", i)
		}
	}
	if w.Origin(3) != nil || w.Committed(3) != nil || w.Disk(3) == nil {
		t.Error("the sink")
	}
}

func TestDoWrong(t *testing.T) {
	w := made(t, 1<<12)
	for i, c := range []struct {
		x script.Item
		e api.Errno
	}{
		{script.Item{Do: 9}, api.ErrForm}, {script.Item{Do: -1}, api.ErrForm}, {script.Item{Do: script.Commit, Who: 3}, api.ErrName}, {script.Item{Do: script.Tick, Who: 4}, api.ErrName}, {script.Item{Do: script.Sync, N: 1}, api.ErrArg}, {script.Item{Do: script.Commit, Deps: api.Clock{-1}}, api.ErrArg}, {script.Item{Do: script.Fuse, N: -1}, api.ErrArg},
		{script.Item{Do: script.Deliver}, api.ErrName}, {script.Item{Do: script.Drop, N: 5}, api.ErrName}, {script.Item{Do: script.Double}, api.ErrName}, {script.Item{Do: script.Spoil, Mask: 1}, api.ErrName},
	} {
		if e := w.Do(c.x); e != c.e || w.Net().Len() != 0 || len(w.Committed(0)) != 0 {
			t.Errorf("case %d: %d", i, e)
		}
	}
}

func TestCommitDeps(t *testing.T) {
	w := made(t, 1<<12)
	do(t, w, commit(1, api.Clock{}, 1), commit(1, api.Clock{9, 9, 9}, 2), script.Item{Do: script.Sync, Who: 1}, commit(1, api.Clock{}, 3), commit(2, api.Clock{5, 5, 5}, 4), commit(2, api.Clock{0, 1, 0}, 5))
	l := w.Committed(2)
	if len(l) != 2 || l[0].Deps != (api.Clock{0, 2, 0}) || l[1].Deps != (api.Clock{0, 1, 1}) || !slices.Equal(l[1].Writes, commit(2, api.Clock{}, 5).Writes) {
		t.Errorf("%v", l)
	}
	if l := w.Committed(1); len(l) != 3 || l[1].Deps != (api.Clock{0, 1, 0}) || w.Settled() {
		t.Errorf("%v", l)
	}
	l[0].Writes[0].Key = "changed"
	l[1] = api.Txn{}
	if l := w.Committed(2); l[0].Writes[0].Key != "k4" || l[1].Seq != 2 {
		t.Errorf("%v", l)
	}
	sound(t, w)
	if e := made(t, 10).Do(commit(0, api.Clock{}, 50)); e != api.ErrFull {
		t.Errorf("%d", e)
	}
}

func TestLetters(t *testing.T) {
	w := made(t, 1<<14)
	do(t, w, commit(0, api.Clock{}, 1), script.Item{Do: script.Sync}, script.Item{Do: script.Tick}, script.Item{Do: script.Double})
	if w.Net().Len() != 2 || w.Net().All()[1].To != net.Sink {
		t.Fatalf("%d", w.Net().Len())
	}
	do(t, w, script.Item{Do: script.Spoil, N: 1, At: 11, Mask: 6})
	if e := w.Do(script.Item{Do: script.Spoil, N: 1, At: 30, Mask: 1}); e != api.ErrName {
		t.Errorf("spoilt twice: %d", e)
	}
	if e := w.Do(script.Item{Do: script.Deliver, N: 1}); e != api.ErrSum || w.Net().Len() != 1 || w.Sink().Have(0) != 0 {
		t.Errorf("a spoilt letter: %d", e)
	}
	do(t, w, script.Item{Do: script.Deliver, N: 7})
	if l := w.Net().All(); len(l) != 1 || l[0].To != 0 || w.Sink().Have(0) != 1 {
		t.Fatalf("%v", l)
	}
	do(t, w, script.Item{Do: script.Deliver})
	if w.Origin(0).Acked() != 1 || w.Net().Len() != 0 || !w.Settled() {
		t.Errorf("%d", w.Origin(0).Acked())
	}
	do(t, w, script.Item{Do: script.Tick, Who: sinkWho})
	for i, l := range w.Net().All() {
		if l.To != i {
			t.Errorf("letter %d goes to %d", i, l.To)
		}
	}
	do(t, w, script.Item{Do: script.Drop, N: 1})
	if l := w.Net().All(); len(l) != 2 || l[1].To != 2 {
		t.Errorf("%v", l)
	}
	for w.Net().Len() < api.MostMail {
		do(t, w, script.Item{Do: script.Double})
	}
	if e := w.Do(script.Item{Do: script.Double}); e != api.ErrName {
		t.Errorf("no room: %d", e)
	}
	do(t, w, commit(0, api.Clock{}, 1), script.Item{Do: script.Sync}, script.Item{Do: script.Tick})
	if w.Net().Len() != api.MostMail {
		t.Errorf("%d", w.Net().Len())
	}
	// What is asked for is sent by the origin, to the sink.
	w = made(t, 1<<14)
	do(t, w, commit(1, api.Clock{}, 1), commit(1, api.Clock{}, 2), script.Item{Do: script.Sync, Who: 1})
	ask, _ := mail.Put(mail.Msg{Kind: mail.Ask, Origin: 1, From: 2, To: 2})
	_ = w.Net().Send(net.Letter{To: 1, Body: ask})
	do(t, w, script.Item{Do: script.Deliver})
	if l := w.Net().All(); len(l) != 1 || l[0].To != net.Sink {
		t.Fatalf("%v", l)
	}
	if m, e := mail.Take(w.Net().All()[0].Body); e != api.OK || len(m.Txns) != 1 || m.Txns[0].Seq != 2 {
		t.Errorf("%v, %d", m, e)
	}
	if e := w.Do(script.Item{Do: script.Deliver}); e != api.OK || w.Sink().Held(1) != 1 {
		t.Errorf("%d", e)
	}
	_ = w.Net().Send(net.Letter{To: 0, Body: ask})
	do(t, w, script.Item{Do: script.Deliver}) // the sink's Ack
	if e := w.Do(script.Item{Do: script.Deliver}); e != api.ErrName || w.Net().Len() != 0 {
		t.Errorf("a letter that came to another one: %d", e)
	}
}

func TestCrashFuse(t *testing.T) {
	w := made(t, 1<<14)
	do(t, w, commit(0, api.Clock{}, 1), script.Item{Do: script.Sync}, commit(0, api.Clock{}, 2), commit(0, api.Clock{}, 3), script.Item{Do: script.Tick})
	do(t, w, script.Item{Do: script.Fuse})
	if e := w.Do(commit(0, api.Clock{}, 4)); e != api.ErrDown || len(w.Committed(0)) != 3 {
		t.Errorf("%d", e)
	}
	for i, x := range []script.Item{commit(0, api.Clock{}, 4), {Do: script.Sync}, {Do: script.Tick}} {
		if e := w.Do(x); e != api.ErrDown {
			t.Errorf("item %d: %d", i, e)
		}
	}
	if w.Settled() {
		t.Error("settled, with one that is down")
	}
	sound(t, w)
	do(t, w, script.Item{Do: script.Crash, Kept: []int{20}})
	if l := w.Committed(0); len(l) != 2 || w.Origin(0).Log().Synced() != 2 || w.Origin(0).Down() {
		t.Errorf("%v", l)
	}
	sound(t, w)
	do(t, w, commit(0, api.Clock{}, 5), script.Item{Do: script.Crash})
	if l := w.Committed(0); len(l) != 2 {
		t.Errorf("%v", l)
	}
	do(t, w, script.Item{Do: script.Fuse, Who: 3, N: 1})
	if e := w.Do(script.Item{Do: script.Deliver}); e != api.ErrDown || !w.Sink().Down() {
		t.Errorf("%d", e)
	}
	if e := w.Do(script.Item{Do: script.Tick, Who: 3}); e != api.ErrDown || w.Net().Len() != 0 {
		t.Errorf("%d", e)
	}
	sound(t, w)
	do(t, w, script.Item{Do: script.Crash, Who: 3, Kept: []int{1 << 20}})
	if w.Sink().Down() || w.Sink().Keep().Applied() != (api.Clock{1, 0, 0}) {
		t.Errorf("%v", w.Sink().Keep().Applied())
	}
	sound(t, w)
	// The fuse of another one's disk doesn't matter; a crash takes it away.
	do(t, w, script.Item{Do: script.Fuse, Who: 1, N: 0}, script.Item{Do: script.Sync, Who: 0}, script.Item{Do: script.Crash, Who: 1}, commit(1, api.Clock{}, 1))
	// A tick may be the sink's last.
	w = made(t, 100)
	do(t, w, commit(0, api.Clock{}, 1), script.Item{Do: script.Sync}, script.Item{Do: script.Tick})
	_ = w.Disk(3).Append(9, make([]byte, 100))
	do(t, w, script.Item{Do: script.Deliver})
	_ = w.Disk(3).Cut(9, 0)
	do(t, w, script.Item{Do: script.Fuse, Who: 3, N: 1})
	if e := w.Do(script.Item{Do: script.Tick, Who: 3}); e != api.ErrDown || w.Net().Len() != 1 {
		t.Errorf("%d, %d", e, w.Net().Len())
	}
}

func TestCalm(t *testing.T) {
	w := made(t, 1<<16)
	for n := range 20 {
		do(t, w, commit(n%3, api.Clock{int64(n), int64(n), int64(n)}, n), script.Item{Do: script.Sync, Who: n % 3})
	}
	do(t, w, commit(2, api.Clock{}, 3)) // isn't synced
	if w.Calm(0) != 0 || w.Calm(-5) != 0 || w.Settled() || w.Sink().Keep().Applied() != (api.Clock{}) {
		t.Fatalf("%v", w.Sink().Keep().Applied())
	}
	if n := w.Calm(1); n != 1 || w.Settled() || w.Net().Len() != 0 {
		t.Fatalf("%d, %v", n, w.Sink().Keep().Applied())
	}
	n := w.Calm(1000)
	if n < 1 || n > 20 || !w.Settled() || w.Sink().Keep().Applied() != (api.Clock{7, 7, 6}) || len(w.Committed(2)) != 7 {
		t.Errorf("%d, %v", n, w.Sink().Keep().Applied())
	}
	sound(t, w)
	if w.Calm(5) != 0 {
		t.Error("it was settled")
	}
	// Who is down crashes, nothing being kept; and there is no fuse any more.
	do(t, w, script.Item{Do: script.Fuse, Who: 0, N: 1}, script.Item{Do: script.Fuse, Who: 1, N: 3}, script.Item{Do: script.Fuse, Who: 3, N: 1}, commit(0, api.Clock{}, 1))
	if e := w.Do(script.Item{Do: script.Sync, Who: 0}); e != api.ErrDown {
		t.Fatal(e)
	}
	do(t, w, commit(1, api.Clock{}, 1), script.Item{Do: script.Sync, Who: 1}, script.Item{Do: script.Tick, Who: 1})
	if e := w.Do(script.Item{Do: script.Deliver}); e != api.ErrDown {
		t.Fatal(e)
	}
	if n := w.Calm(100); n < 1 || !w.Settled() || len(w.Committed(0)) != 7 || w.Sink().Keep().Applied() != (api.Clock{7, 8, 6}) {
		t.Errorf("%d, %v", n, w.Sink().Keep().Applied())
	}
	for who := range 3 {
		do(t, w, commit(who, api.Clock{}, 1), commit(who, api.Clock{}, 1), commit(who, api.Clock{}, 1), script.Item{Do: script.Sync, Who: who})
	}
	if w.Calm(100) < 1 || !w.Settled() {
		t.Error("a fuse is left")
	}
	sound(t, w)
}

// TestCalmNeedsNoCrash: who isn't down keeps what isn't sure.
func TestCalmNeedsNoCrash(t *testing.T) {
	w := made(t, 1<<14)
	do(t, w, commit(0, api.Clock{}, 1), commit(1, api.Clock{}, 1))
	if w.Calm(9) != 0 || len(w.Committed(0)) != 1 || w.Disk(0).Sure(0) != 0 {
		t.Error("crashed")
	}
	w = made(t, 0)
	if e := w.Do(commit(0, api.Clock{}, 1)); e != api.ErrFull || !w.Settled() {
		t.Errorf("%d", e)
	}
}

// TestSpoiltDisk: what somebody else wrote upon a disk lets it not be opened anew; all goes on without a panic.
func TestSpoiltDisk(t *testing.T) {
	for who := range 4 {
		w := made(t, 1<<14)
		do(t, w, commit(0, api.Clock{}, 1), script.Item{Do: script.Sync}, script.Item{Do: script.Tick})
		_ = w.Disk(who).Append(0, []byte{128, 0, 0, 0, 0})
		_ = w.Disk(who).Sync(0)
		if e := w.Do(script.Item{Do: script.Crash, Who: who}); e != api.ErrSum || w.Origin(min(who, 2)) == nil || w.Sink() == nil || len(w.Committed(0)) != 1 {
			t.Errorf("%d: %d", who, e)
		}
		for range 2 {
			_ = w.Run([]script.Item{commit(0, api.Clock{}, 1), commit(1, api.Clock{}, 1), commit(2, api.Clock{}, 1), {Do: script.Sync, Who: min(who, 2)}, {Do: script.Tick, Who: who}, {Do: script.Tick, Who: 3}, {Do: script.Deliver}, {Do: script.Deliver}, {Do: script.Fuse, Who: who}, {Do: script.Crash, Who: who}})
			_ = w.Calm(5)
		}
	}
}

// twin is the document's words, by the layers below.
type twin struct {
	disks   [4]*disk.Disk
	origins [3]*origin.Origin
	sink    *sink.Sink
	net     *net.Net
	rows    [3][]api.Txn
}

func newTwin(room int) *twin {
	w := &twin{net: net.New()}
	for i := range w.disks {
		w.disks[i], _ = disk.New(room)
		if i < 3 {
			w.origins[i], _ = origin.Open(i, w.disks[i])
		}
	}
	w.sink, _ = sink.Open(w.disks[3])
	return w
}

func (w *twin) sendAll(l [][]byte) {
	for _, b := range l {
		_ = w.net.Send(net.Letter{To: 3, Body: b})
	}
}

func (w *twin) answerAll(l []sink.Letter) {
	for _, x := range l {
		_ = w.net.Send(net.Letter{To: x.To, Body: x.Body})
	}
}

func name(ok bool) api.Errno {
	if ok {
		return api.OK
	}
	return api.ErrName
}

func (w *twin) do(x script.Item) api.Errno {
	if e := script.Check(x); e != api.OK {
		return e
	}
	switch x.Do {
	case 0:
		for i := range x.Deps {
			x.Deps[i] = min(x.Deps[i], w.origins[i].Log().Synced())
		}
		t, e := w.origins[x.Who].Commit(x.Deps, x.Writes)
		if e == api.OK {
			w.rows[x.Who] = append(w.rows[x.Who], t)
		}
		return e
	case 1:
		return w.origins[x.Who].Sync()
	case 2:
		down := false
		if x.Who == 3 {
			w.answerAll(w.sink.Tick())
			down = w.sink.Down()
		} else {
			w.sendAll(w.origins[x.Who].Tick())
			down = w.origins[x.Who].Down()
		}
		if down {
			return api.ErrDown
		}
	case 3:
		l, ok := w.net.Take(x.N)
		if !ok {
			return api.ErrName
		}
		if l.To == 3 {
			letters, e := w.sink.Take(l.Body)
			w.answerAll(letters)
			return e
		}
		letters, e := w.origins[l.To].Take(l.Body)
		w.sendAll(letters)
		return e
	case 4:
		_, ok := w.net.Take(x.N)
		return name(ok)
	case 5:
		return name(w.net.Double(x.N))
	case 6:
		return name(w.net.Turn(x.N, x.At, x.Mask))
	case 7:
		w.disks[x.Who].Crash(x.Kept...)
		if x.Who == 3 {
			w.sink, _ = sink.Open(w.disks[3])
			return api.OK
		}
		w.origins[x.Who], _ = origin.Open(x.Who, w.disks[x.Who])
		w.rows[x.Who] = w.rows[x.Who][:w.origins[x.Who].Log().Next()-1]
	case 8:
		w.disks[x.Who].Fuse(x.N)
	}
	return api.OK
}

func (w *twin) settled() bool {
	for i, o := range w.origins {
		if o.Down() || o.Log().Synced() != w.sink.Keep().Applied()[i] {
			return false
		}
	}
	return !w.sink.Down()
}

func (w *twin) calm(rounds int) int {
	for who, d := range w.disks {
		d.Fuse(-1)
		if who == 3 && w.sink.Down() || who < 3 && w.origins[who].Down() {
			_ = w.do(script.Item{Do: script.Crash, Who: who})
		}
	}
	for n := 0; ; n++ {
		if n == max(rounds, 0) || w.settled() {
			return n
		}
		for who := range 4 {
			_ = w.do(script.Item{Do: script.Tick, Who: who})
		}
		for w.net.Len() > 0 {
			_ = w.do(script.Item{Do: script.Deliver})
		}
	}
}

func agree(t *testing.T, w *world.World, x *twin) {
	t.Helper()
	for i := range 4 {
		for file := range 64 {
			a, _ := w.Disk(i).Read(file)
			b, _ := x.disks[i].Read(file)
			if !bytes.Equal(a, b) || w.Disk(i).Sure(file) != x.disks[i].Sure(file) {
				t.Fatalf("disk %d, file %d", i, file)
			}
		}
		if w.Disk(i).Down() != x.disks[i].Down() {
			t.Fatalf("disk %d", i)
		}
	}
	for i, o := range x.origins {
		if w.Origin(i).Acked() != o.Acked() || w.Origin(i).Down() != o.Down() || !slices.EqualFunc(w.Committed(i), x.rows[i], txn.Same) {
			t.Fatalf("origin %d", i)
		}
		if w.Sink().Have(i) != x.sink.Have(i) || w.Sink().Held(i) != x.sink.Held(i) || w.Sink().Waiting(i) != x.sink.Waiting(i) {
			t.Fatalf("the sink's %d", i)
		}
	}
	same := func(a, b net.Letter) bool { return a.To == b.To && bytes.Equal(a.Body, b.Body) }
	if !slices.EqualFunc(w.Net().All(), x.net.All(), same) || w.Settled() != x.settled() {
		t.Fatal("the net, or settled")
	}
}

// item is something that may happen; none of what it loses is lost for good.
func item(r *rand.Rand, w *world.World) script.Item {
	who := r.IntN(3)
	all := r.IntN(4)
	switch n := r.IntN(100); {
	case n < 25:
		var deps api.Clock
		for i := range deps {
			deps[i] = r.Int64N(int64(len(w.Committed(i))) + 3)
		}
		return commit(who, deps, r.IntN(250))
	case n < 37:
		return script.Item{Do: script.Sync, Who: who}
	case n < 60:
		return script.Item{Do: script.Tick, Who: all}
	case n < 84:
		return script.Item{Do: script.Deliver, N: r.IntN(6)}
	case n < 88:
		return script.Item{Do: script.Drop, N: r.IntN(70)}
	case n < 91:
		return script.Item{Do: script.Double, N: r.IntN(70)}
	case n < 95:
		return script.Item{Do: script.Spoil, N: r.IntN(70), At: r.IntN(600), Mask: r.Uint32()}
	case n < 97:
		var kept []int
		for range r.IntN(5) {
			kept = append(kept, r.IntN(400))
		}
		return script.Item{Do: script.Crash, Who: all, Kept: kept}
	default:
		return script.Item{Do: script.Fuse, Who: all, N: r.IntN(8)}
	}
}

func TestScripts(t *testing.T) {
	r := rand.New(rand.NewPCG(23, 1))
	for round := range 60 {
		room := []int{1 << 20, 1 << 20, 4000, 1500}[round%4]
		w := made(t, room)
		x := newTwin(room)
		var l []script.Item
		var errnos []api.Errno
		for range 300 {
			it := item(r, w)
			e := w.Do(it)
			if want := x.do(it); e != want {
				t.Fatalf("%v: %d, not %d", it, e, want)
			}
			agree(t, w, x)
			sound(t, w)
			l = append(l, it)
			errnos = append(errnos, e)
		}
		again := made(t, room)
		if got := again.Run(l); !slices.Equal(got, errnos) {
			t.Fatalf("run again: %v", got)
		}
		agree(t, again, x)
		n := w.Calm(200)
		if want := x.calm(200); n != want {
			t.Fatalf("%d rounds, not %d", n, want)
		}
		agree(t, w, x)
		sound(t, w)
		if room == 1<<20 && (!w.Settled() || n == 200) { // W3
			t.Fatalf("not settled behind %d rounds", n)
		}
		for i := range 3 {
			if l := w.Committed(i); w.Settled() && int64(len(l)) < w.Sink().Keep().Applied()[i] {
				t.Fatalf("of %d", i)
			}
		}
	}
}

// TestLoss: what is lost again and again is applied at last, within rounds that hang on how much there is.
func TestLoss(t *testing.T) {
	r := rand.New(rand.NewPCG(23, 2))
	for range 20 {
		w := made(t, 1<<20)
		for n := range 100 {
			do(t, w, commit(n%3, api.Clock{r.Int64N(50), r.Int64N(50), r.Int64N(50)}, r.IntN(250)))
			if r.IntN(3) == 0 {
				do(t, w, script.Item{Do: script.Sync, Who: n % 3})
			}
			do(t, w, script.Item{Do: script.Tick, Who: r.IntN(4)})
			for w.Net().Len() > 0 { // most letters are lost
				x := script.Item{Do: script.Drop, N: r.IntN(9)}
				if r.IntN(4) == 0 {
					x.Do = script.Deliver
				}
				_ = w.Do(x)
			}
		}
		for who := range 3 {
			do(t, w, script.Item{Do: script.Sync, Who: who})
		}
		if n := w.Calm(150); n == 150 || !w.Settled() {
			t.Fatalf("%d rounds, %v", n, w.Sink().Keep().Applied())
		}
		for i, n := range w.Sink().Keep().Applied() {
			if n != int64(len(w.Committed(i))) {
				t.Fatalf("of %d: %d", i, n)
			}
		}
		sound(t, w)
	}
}
