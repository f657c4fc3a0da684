package origin_test

import (
	"math/rand/v2"
	"slices"
	"strings"
	"testing"

	"packetboat/api"
	"packetboat/clog"
	"packetboat/crc"
	"packetboat/disk"
	"packetboat/mail"
	"packetboat/origin"
	"packetboat/send"
	"packetboat/txn"
)

func opened(t *testing.T, id, room int) (*origin.Origin, *disk.Disk) {
	t.Helper()
	d, _ := disk.New(room)
	o, e := origin.Open(id, d)
	if e != api.OK {
		t.Fatal(e)
	}
	return o, d
}

func writes(n int) []api.Write {
	return []api.Write{{Key: "k", Value: strings.Repeat("v", n)}, {Key: "g", Gone: true}}
}

func put(m mail.Msg) []byte {
	b, e := mail.Put(m)
	if e != api.OK {
		panic(e)
	}
	return b
}

// numbers tells the numbers of letters, each of which has to be one of Data that follows one another.
func numbers(t *testing.T, id int, letters [][]byte) []int64 {
	t.Helper()
	var l []int64
	for _, b := range letters {
		m, e := mail.Take(b)
		if e != api.OK || m.Kind != mail.Data || m.Origin != id {
			t.Fatalf("a letter: %v, %d", m, e)
		}
		for _, x := range m.Txns {
			l = append(l, x.Seq)
		}
	}
	if len(letters) > 1 {
		t.Fatalf("%d letters", len(letters))
	}
	return l
}

func TestExample(t *testing.T) {
	o, _ := opened(t, 1, 1<<12)
	x, e := o.Commit(api.Clock{4, 9, 2}, writes(3))
	if want := (api.Txn{Origin: 1, Seq: 1, Deps: api.Clock{4, 0, 2}, Writes: writes(3)}); e != api.OK || !txn.Same(x, want) {
		t.Errorf("%v, %d", x, e)
	}
	if l := o.Tick(); len(l) != 0 {
		t.Errorf("what isn't synced is sent: %v", l)
	}
	if e := o.Sync(); e != api.OK || o.Log().Synced() != 1 {
		t.Error(e)
	}
	l := o.Tick()
	if !slices.Equal(numbers(t, 1, l), []int64{1}) {
		t.Fatalf("%v", l)
	}
	if m, _ := mail.Take(l[0]); !txn.Same(m.Txns[0], x) {
		t.Errorf("%v isn't what was committed", m)
	}
}

func TestOpenWrong(t *testing.T) {
	d, _ := disk.New(100)
	for i, c := range []struct {
		id int
		d  *disk.Disk
		e  api.Errno
	}{{0, nil, api.ErrArg}, {7, nil, api.ErrArg}, {3, d, api.ErrName}, {-1, d, api.ErrName}} {
		if o, e := origin.Open(c.id, c.d); o != nil || e != c.e {
			t.Errorf("case %d: %d", i, e)
		}
	}
	_ = d.Append(0, []byte{128, 0})
	if o, e := origin.Open(0, d); o != nil || e != api.ErrSum {
		t.Errorf("%d", e)
	}
	d.Fuse(0)
	_ = d.Sync(0)
	if o, e := origin.Open(0, d); o != nil || e != api.ErrDown {
		t.Errorf("%d", e)
	}
}

func TestCommitWrong(t *testing.T) {
	o, _ := opened(t, 2, 400)
	for i, c := range []struct {
		deps   api.Clock
		writes []api.Write
		e      api.Errno
	}{
		{api.Clock{-1, 0, 0}, nil, api.ErrArg}, {api.Clock{0, api.MaxNumber + 1, 0}, nil, api.ErrArg}, {api.Clock{}, make([]api.Write, 17), api.ErrLong}, {api.Clock{}, []api.Write{{Key: "a", Value: "x", Gone: true}}, api.ErrForm},
		{api.Clock{}, []api.Write{{Key: "a", Value: strings.Repeat("v", 256)}, {Key: "b", Value: strings.Repeat("v", 256)}}, api.ErrFull},
	} {
		if x, e := o.Commit(c.deps, c.writes); e != c.e || !txn.Same(x, api.Txn{}) || o.Log().Next() != 1 {
			t.Errorf("case %d: %v, %d", i, x, e)
		}
	}
	if x, e := o.Commit(api.Clock{0, 0, -77}, nil); e != api.OK || x.Deps != (api.Clock{}) || x.Seq != 1 || x.Origin != 2 {
		t.Errorf("its own number of deps counts: %v, %d", x, e)
	}
}

func TestCommitSharesNothing(t *testing.T) {
	o, _ := opened(t, 0, 1<<12)
	w := writes(2)
	x, _ := o.Commit(api.Clock{}, w)
	w[0].Key = "changed"
	if x.Writes[0].Key != "k" {
		t.Error("what is told is what was given")
	}
	x.Writes[1].Key = "changed"
	if w[1].Key != "g" {
		t.Error("what was given is what is told")
	}
	_ = o.Sync()
	m, _ := mail.Take(o.Tick()[0])
	if len(m.Txns) != 1 || !slices.Equal(m.Txns[0].Writes, writes(2)) {
		t.Errorf("%v", m)
	}
}

func TestTakeWrong(t *testing.T) {
	o, _ := opened(t, 1, 1<<12)
	_, _ = o.Commit(api.Clock{}, nil)
	_ = o.Sync()
	data := func(id int) []byte {
		return put(mail.Msg{Kind: mail.Data, Origin: id, Txns: []api.Txn{{Origin: id, Seq: 1}}})
	}
	spoilt := crc.Turn(put(mail.Msg{Kind: mail.Ack, Origin: 1, To: 1}), 9, 5)
	for i, c := range []struct {
		b []byte
		e api.Errno
	}{
		{nil, api.ErrShort}, {spoilt, api.ErrSum}, {crc.Seal([]byte{9}), api.ErrForm}, {put(mail.Msg{Kind: mail.Ack, Origin: 0, To: 1}), api.ErrName}, {put(mail.Msg{Kind: mail.Ask, Origin: 2, From: 1, To: 1}), api.ErrName}, {data(0), api.ErrName}, {data(1), api.ErrForm},
	} {
		if l, e := o.Take(c.b); e != c.e || len(l) != 0 || o.Acked() != 0 {
			t.Errorf("case %d: %v, %d", i, l, e)
		}
	}
}

func TestAcksAndAsks(t *testing.T) {
	o, d := opened(t, 0, 1<<14)
	for range 9 {
		if _, e := o.Commit(api.Clock{}, writes(250)); e != api.OK {
			t.Fatal(e)
		}
	}
	_ = o.Sync()
	_, _ = o.Commit(api.Clock{}, writes(1))
	if files := o.Log().Files(); len(files) != 4 {
		t.Fatalf("%v", files)
	}
	ack := func(to int64) ([][]byte, api.Errno) { return o.Take(put(mail.Msg{Kind: mail.Ack, To: to})) }
	ask := func(from, to int64) []int64 {
		l, e := o.Take(put(mail.Msg{Kind: mail.Ask, From: from, To: to}))
		if e != api.OK {
			t.Fatal(e)
		}
		return numbers(t, 0, l)
	}
	if l := ask(2, 3); !slices.Equal(l, []int64{2, 3}) {
		t.Errorf("%v", l)
	}
	if l := ask(1, 9); !slices.Equal(l, []int64{1, 2, 3, 4}) {
		t.Errorf("%v", l)
	}
	if l := ask(8, 99); !slices.Equal(l, []int64{8, 9}) {
		t.Errorf("%v", l)
	}
	if l := ask(10, 10); len(l) != 0 {
		t.Errorf("what isn't synced is sent: %v", l)
	}
	for i, c := range []struct{ to, acked, base int64 }{{0, 0, 0}, {10, 0, 0}, {2, 2, 0}, {4, 4, 3}, {3, 4, 3}, {9, 9, 6}} {
		if l, e := ack(c.to); e != api.OK || len(l) != 0 || o.Acked() != c.acked || o.Log().Base() != c.base {
			t.Errorf("case %d: %d, %d, %d", i, e, o.Acked(), o.Log().Base())
		}
		if c.base == 3 {
			if l := ask(1, 6); !slices.Equal(l, []int64{4, 5, 6}) {
				t.Errorf("case %d: %v", i, l)
			}
		}
	}
	_ = o.Sync()
	if l, e := ack(10); e != api.OK || len(l) != 0 || o.Acked() != 10 || o.Log().Base() != 9 {
		t.Errorf("%d, %d, %d", e, o.Acked(), o.Log().Base())
	}
	if !slices.Equal(d.Files(), o.Log().Files()) || !slices.Equal(d.Files(), []int{3}) {
		t.Errorf("%v", d.Files())
	}
}

func TestDown(t *testing.T) {
	ways := []func(o *origin.Origin) api.Errno{
		func(o *origin.Origin) api.Errno { _, e := o.Commit(api.Clock{}, nil); return e },
		func(o *origin.Origin) api.Errno { return o.Sync() },
		func(o *origin.Origin) api.Errno {
			_, e := o.Take(put(mail.Msg{Kind: mail.Ack, To: 5}))
			return e
		},
	}
	for i, first := range ways {
		o, d := opened(t, 0, 1<<14)
		for range 6 {
			_, _ = o.Commit(api.Clock{}, writes(250))
		}
		_ = o.Sync()
		d.Fuse(0)
		if o.Down() || first(o) != api.ErrDown || !o.Down() {
			t.Fatalf("way %d", i)
		}
		acked := o.Acked()
		d.Crash()
		for j, next := range ways {
			if e := next(o); e != api.ErrDown {
				t.Errorf("way %d, then %d: %d", i, j, e)
			}
		}
		if l, e := o.Take([]byte{1}); e != api.ErrDown || len(l) != 0 {
			t.Errorf("way %d: %d", i, e)
		}
		if x, e := o.Commit(api.Clock{-1}, nil); e != api.ErrDown || !txn.Same(x, api.Txn{}) {
			t.Errorf("way %d: %d", i, e)
		}
		for range 9 {
			if l := o.Tick(); len(l) != 0 {
				t.Fatalf("way %d: one that is down sends", i)
			}
		}
		if o.Acked() != acked || o.Log().Next() != 7 {
			t.Errorf("way %d: %d, %d", i, o.Acked(), o.Log().Next())
		}
		if o, e := origin.Open(0, d); e != api.OK || o.Down() || o.Acked() != o.Log().Base() || len(o.Tick()) != 1 {
			t.Errorf("way %d: opened anew: %d", i, e)
		}
	}
}

// TestFirstError: an error that isn't ErrDown lets it not be down.
func TestFirstError(t *testing.T) {
	o, _ := opened(t, 0, 30)
	if _, e := o.Commit(api.Clock{}, writes(200)); e != api.ErrFull || o.Down() {
		t.Errorf("%d", e)
	}
	if _, e := o.Commit(api.Clock{}, nil); e != api.OK || o.Sync() != api.OK {
		t.Errorf("%d", e)
	}
}

// TestSameAsParts: it sends what a log and a sender tell, whatever happens.
func TestSameAsParts(t *testing.T) {
	r := rand.New(rand.NewPCG(19, 1))
	for range 60 {
		id := r.IntN(3)
		room := []int{2000, 1 << 16}[r.IntN(2)]
		o, d := opened(t, id, room)
		twin, _ := disk.New(room)
		log, _ := clog.Open(twin, id)
		sender, _ := send.New(log.Base())
		down := false
		letter := func(from int64, many int) []int64 {
			var l []int64
			for i := range int64(many) {
				l = append(l, from+i)
			}
			return l
		}
		for range 150 {
			var got, want api.Errno
			var sent, wantSent []int64
			switch r.IntN(9) {
			case 0, 1, 2:
				deps := api.Clock{r.Int64N(5), r.Int64N(5), r.Int64N(5)}
				w := writes(r.IntN(250))
				var x api.Txn
				x, got = o.Commit(deps, w)
				deps[id] = log.Next() - 1
				y := api.Txn{Origin: id, Seq: log.Next(), Deps: deps, Writes: w}
				want = log.Append(y)
				if want != api.OK {
					y = api.Txn{}
				}
				if !txn.Same(x, y) {
					t.Fatalf("%v, not %v", x, y)
				}
			case 3:
				got, want = o.Sync(), log.Sync()
			case 4, 5:
				sent = numbers(t, id, o.Tick())
				if !down {
					wantSent = letter(sender.Tick(log.Synced()))
				}
			case 6:
				to := max(o.Acked()+r.Int64N(8)-2, 0)
				_, got = o.Take(put(mail.Msg{Kind: mail.Ack, Origin: id, To: to}))
				if down {
					want = api.ErrDown
				} else if sender.Ack(to, log.Synced()) {
					want = log.Trim(sender.Acked())
				}
			case 7:
				from := max(o.Acked()+r.Int64N(8)-4, 1)
				to := from + r.Int64N(8)
				var l [][]byte
				l, got = o.Take(put(mail.Msg{Kind: mail.Ask, Origin: id, From: from, To: to}))
				sent = numbers(t, id, l)
				if down {
					want = api.ErrDown
				} else {
					wantSent = letter(sender.Ask(from, to, log.Base(), log.Synced()))
				}
			case 8:
				if r.IntN(4) == 0 {
					n := r.IntN(9)
					d.Fuse(n)
					twin.Fuse(n)
				}
				if down && r.IntN(3) == 0 {
					kept := r.IntN(300)
					d.Crash(kept)
					twin.Crash(kept)
					o, _ = origin.Open(id, d)
					log, _ = clog.Open(twin, id)
					sender, _ = send.New(log.Base())
					down = false
				}
			}
			down = down || want == api.ErrDown
			if got != want || !slices.Equal(sent, wantSent) {
				t.Fatalf("%d, %v; not %d, %v", got, sent, want, wantSent)
			}
			if o.Acked() != sender.Acked() || o.Log().Base() != log.Base() || o.Log().Next() != log.Next() || o.Log().Synced() != log.Synced() || o.Down() != down {
				t.Fatalf("%d, %d, %d, %d, %v", o.Acked(), o.Log().Base(), o.Log().Next(), o.Log().Synced(), o.Down())
			}
		}
	}
}
