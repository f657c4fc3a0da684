package mail_test

import (
	"bytes"
	"math"
	"math/rand/v2"
	"slices"
	"strconv"
	"testing"

	"packetboat/api"
	"packetboat/crc"
	"packetboat/epoch"
	"packetboat/mail"
	"packetboat/txn"
	"packetboat/vint"
)

const top = int64(api.MaxNumber)

// row are transactions of an origin, from a number on.
func row(origin int, from int64, many int) []api.Txn {
	var l []api.Txn
	for i := range int64(many) {
		t := api.Txn{Origin: origin, Seq: from + i, Writes: []api.Write{{Key: "a" + strconv.Itoa(int(i)), Value: "x"}, {Key: "b", Gone: true}}}
		t.Deps[origin] = t.Seq - 1
		l = append(l, t)
	}
	return l
}

// text is the document's words: a message's bytes, ahead of their sum.
func text(m mail.Msg) []byte {
	b := slices.Concat(vint.Put(uint64(m.Kind)), vint.Put(uint64(m.Origin)))
	switch m.Kind {
	case 1:
		batch, _ := epoch.Pack(m.Txns)
		return append(b, batch...)
	case 2:
		return append(b, vint.Put(uint64(m.To))...)
	}
	return slices.Concat(b, vint.Put(uint64(m.From)), vint.Put(uint64(m.To)))
}

func good() []mail.Msg {
	l := []mail.Msg{
		{Kind: mail.Ack}, {Kind: mail.Ack, Origin: 2, To: top}, {Kind: mail.Ack, Origin: 1, To: 300},
		{Kind: mail.Ask, From: 1, To: 1}, {Kind: mail.Ask, Origin: 2, From: 3, To: 300}, {Kind: mail.Ask, Origin: 2, From: 1, To: top}, {Kind: mail.Ask, From: top, To: top},
		{Kind: mail.Data, Origin: 2, Txns: row(2, top-1, 2)}, {Kind: mail.Data, Txns: []api.Txn{{Seq: 1}}},
	}
	for n := range api.Batch {
		l = append(l, mail.Msg{Kind: mail.Data, Origin: n % 3, Txns: row(n%3, 7, n+1)})
	}
	return l
}

func TestKinds(t *testing.T) {
	if mail.Data != 1 || mail.Ack != 2 || mail.Ask != 3 {
		t.Errorf("%d, %d, %d", mail.Data, mail.Ack, mail.Ask)
	}
}

func TestPutTake(t *testing.T) {
	if b := text(mail.Msg{Kind: mail.Ask, Origin: 2, From: 3, To: 300}); !bytes.Equal(b, []byte{3, 2, 3, 172, 2}) {
		t.Errorf("%v", b)
	}
	for i, m := range good() {
		want := crc.Seal(text(m))
		if e := mail.Check(m); e != api.OK {
			t.Errorf("case %d: Check: %d", i, e)
		}
		b, e := mail.Put(m)
		if e != api.OK || !bytes.Equal(b, want) {
			t.Errorf("case %d: Put: %v, %d, not %v", i, b, e, want)
		}
		back, e := mail.Take(b)
		if e != api.OK || !mail.Same(back, m) || !slices.EqualFunc(back.Txns, m.Txns, txn.Same) {
			t.Errorf("case %d: Take: %v, %d", i, back, e)
		}
		for cut := range b {
			if back, e := mail.Take(b[:cut]); e != api.ErrShort && e != api.ErrSum || !mail.Same(back, mail.Msg{}) {
				t.Errorf("case %d, cut off at %d: %d", i, cut, e)
			}
		}
		sealed := crc.Seal(append(text(m), 0))
		if back, e := mail.Take(sealed); e != api.ErrForm || !mail.Same(back, mail.Msg{}) {
			t.Errorf("case %d, with more behind: %d", i, e)
		}
		for cut := range text(m) {
			if back, e := mail.Take(crc.Seal(text(m)[:cut])); e != api.ErrShort || !mail.Same(back, mail.Msg{}) {
				t.Errorf("case %d, cut off at %d and sealed: %v, %d", i, cut, back, e)
			}
		}
	}
}

func TestCheckWrong(t *testing.T) {
	odd := row(0, 1, 2)
	odd[0].Deps[0] = 5
	odd[1].Seq = 0
	for i, c := range []struct {
		m mail.Msg
		e api.Errno
	}{
		{mail.Msg{}, api.ErrForm}, {mail.Msg{Kind: 4}, api.ErrForm}, {mail.Msg{Kind: -1}, api.ErrForm}, {mail.Msg{Kind: 4, Origin: 9}, api.ErrForm}, {mail.Msg{Kind: math.MaxInt}, api.ErrForm}, {mail.Msg{Kind: math.MinInt}, api.ErrForm},
		{mail.Msg{Kind: 1, Origin: -1}, api.ErrName}, {mail.Msg{Kind: 2, Origin: 3, From: 1}, api.ErrName}, {mail.Msg{Kind: 3, Origin: math.MinInt, Txns: odd}, api.ErrName},
		{mail.Msg{Kind: 1, From: 1}, api.ErrForm}, {mail.Msg{Kind: 1, To: 1, Txns: row(0, 1, 5)}, api.ErrForm}, {mail.Msg{Kind: 1, From: -1, Txns: row(0, 1, 1)}, api.ErrForm}, {mail.Msg{Kind: 1, To: -1, Txns: row(0, 1, 1)}, api.ErrForm},
		{mail.Msg{Kind: 2, From: 1, To: 2}, api.ErrForm}, {mail.Msg{Kind: 2, From: 1, To: -2}, api.ErrForm}, {mail.Msg{Kind: 2, To: 2, Txns: row(0, 1, 1)}, api.ErrForm}, {mail.Msg{Kind: 3, From: 1, To: 2, Txns: row(0, 1, 1)}, api.ErrForm}, {mail.Msg{Kind: 3, From: 0, To: 2, Txns: row(0, 1, 1)}, api.ErrForm},
		{mail.Msg{Kind: 1, Txns: row(0, 1, 5)}, api.ErrLong}, {mail.Msg{Kind: 1, Txns: make([]api.Txn, 5)}, api.ErrLong},
		{mail.Msg{Kind: 1, Txns: odd}, api.ErrDeps}, {mail.Msg{Kind: 1, Origin: 1, Txns: odd[1:]}, api.ErrArg}, {mail.Msg{Kind: 1, Origin: 1, Txns: append(row(0, 1, 1), api.Txn{Origin: 4})}, api.ErrName}, {mail.Msg{Kind: 1, Txns: append(row(0, 1, 1), api.Txn{Seq: 9})}, api.ErrDeps},
		{mail.Msg{Kind: 1}, api.ErrArg}, {mail.Msg{Kind: 1, Txns: row(1, 1, 2)}, api.ErrArg}, {mail.Msg{Kind: 1, Txns: append(row(0, 1, 1), row(1, 2, 1)...)}, api.ErrArg}, {mail.Msg{Kind: 1, Txns: append(row(0, 1, 1), row(1, 5, 1)...)}, api.ErrArg},
		{mail.Msg{Kind: 1, Txns: append(row(0, 1, 1), row(0, 3, 1)...)}, api.ErrGap}, {mail.Msg{Kind: 1, Txns: append(row(0, 1, 1), row(0, 1, 1)...)}, api.ErrGap}, {mail.Msg{Kind: 1, Txns: append(row(0, 2, 1), row(0, 1, 1)...)}, api.ErrGap},
		{mail.Msg{Kind: 2, To: -1}, api.ErrArg}, {mail.Msg{Kind: 2, To: top + 1}, api.ErrArg}, {mail.Msg{Kind: 2, To: math.MinInt64}, api.ErrArg}, {mail.Msg{Kind: 3}, api.ErrArg}, {mail.Msg{Kind: 3, From: 0, To: 1}, api.ErrArg}, {mail.Msg{Kind: 3, From: -4, To: 1}, api.ErrArg}, {mail.Msg{Kind: 3, From: 1, To: 0}, api.ErrArg}, {mail.Msg{Kind: 3, From: 3, To: 2}, api.ErrArg}, {mail.Msg{Kind: 3, From: 3, To: top + 1}, api.ErrArg}, {mail.Msg{Kind: 3, From: top + 1, To: top + 1}, api.ErrArg}, {mail.Msg{Kind: 3, From: math.MaxInt64, To: math.MinInt64}, api.ErrArg},
	} {
		if e := mail.Check(c.m); e != c.e {
			t.Errorf("case %d: %d, not %d", i, e, c.e)
		}
		if b, e := mail.Put(c.m); e != c.e || len(b) != 0 {
			t.Errorf("case %d: Put: %v, %d", i, b, e)
		}
	}
}

func TestTakeWrong(t *testing.T) {
	big := vint.Put(uint64(top) + 1)
	with := func(head []byte, l ...[]byte) []byte { return append(slices.Clone(head), slices.Concat(l...)...) }
	batch := func(l []api.Txn) []byte {
		b, _ := epoch.Pack(l)
		return b
	}
	one := []byte{0, 1, 0, 0, 0, 0}
	for i, c := range []struct {
		b []byte
		e api.Errno
	}{
		{nil, api.ErrShort}, {[]byte{128, 0}, api.ErrForm}, {[]byte{0}, api.ErrForm}, {[]byte{4}, api.ErrForm}, {[]byte{4, 9}, api.ErrForm}, {vint.Put(math.MaxUint64), api.ErrForm}, {[]byte{1}, api.ErrShort}, {[]byte{2, 128, 0}, api.ErrForm}, {[]byte{2, 3}, api.ErrName}, {with([]byte{2}, vint.Put(math.MaxUint64)), api.ErrName}, {with([]byte{3}, vint.Put(1<<63), []byte{128, 0}), api.ErrName},
		{[]byte{1, 0}, api.ErrShort}, {[]byte{1, 0, 5}, api.ErrLong}, {[]byte{1, 0, 0}, api.ErrArg}, {[]byte{1, 0, 0, 0}, api.ErrForm}, {[]byte{1, 0, 1, 3, 1, 0, 0, 0, 0}, api.ErrName}, {with([]byte{1, 0, 1}, one), api.OK}, {with([]byte{1, 0, 1}, one, one), api.ErrForm}, {with([]byte{1, 1, 1}, one), api.ErrArg}, {with([]byte{1, 0, 2}, one, one), api.ErrGap}, {with([]byte{1, 0}, batch(append(row(0, 1, 1), row(0, 3, 1)...))), api.ErrGap}, {with([]byte{1, 0}, batch(append(row(0, 1, 1), row(2, 2, 1)...))), api.ErrArg},
		{[]byte{2, 0}, api.ErrShort}, {[]byte{2, 0, 128, 0}, api.ErrForm}, {with([]byte{2, 0}, big), api.ErrArg}, {with([]byte{2, 0}, big, []byte{1}), api.ErrArg}, {[]byte{2, 0, 1, 1}, api.ErrForm}, {with([]byte{2, 0}, vint.Put(uint64(top))), api.OK},
		{[]byte{3, 0}, api.ErrShort}, {[]byte{3, 0, 1}, api.ErrShort}, {[]byte{3, 0, 128, 0}, api.ErrForm}, {with([]byte{3, 0}, big), api.ErrArg}, {with([]byte{3, 0}, big, []byte{128, 0}), api.ErrArg}, {with([]byte{3, 0, 1}, big), api.ErrArg}, {with([]byte{3, 0, 1}, big, []byte{1}), api.ErrArg}, {[]byte{3, 0, 1, 128, 0}, api.ErrForm}, {[]byte{3, 0, 1, 1, 1}, api.ErrForm}, {[]byte{3, 0, 0, 1}, api.ErrArg}, {[]byte{3, 0, 2, 1}, api.ErrArg}, {[]byte{3, 0, 2, 1, 0}, api.ErrForm}, {[]byte{3, 0, 2, 2}, api.OK},
	} {
		sealed := crc.Seal(c.b)
		m, e := mail.Take(sealed)
		if e != c.e || e != api.OK && !mail.Same(m, mail.Msg{}) {
			t.Errorf("case %d: %v, %d, not %d", i, m, e, c.e)
		}
		if back, f := mail.Put(m); e == api.OK && (f != api.OK || !bytes.Equal(back, sealed)) {
			t.Errorf("case %d: told again: %v, %d", i, back, f)
		}
		sealed[len(sealed)-1] ^= 128
		if m, e := mail.Take(sealed); e != api.ErrSum || !mail.Same(m, mail.Msg{}) {
			t.Errorf("case %d, spoilt: %d", i, e)
		}
	}
	for n := range 4 {
		if _, e := mail.Take(make([]byte, n)); e != api.ErrShort {
			t.Errorf("%d bytes: %d", n, e)
		}
	}
}

func TestBursts(t *testing.T) {
	r := rand.New(rand.NewPCG(13, 1))
	for _, m := range good() {
		b, _ := mail.Put(m)
		for at := -31; at < 8*len(b); at++ {
			spoilt := crc.Turn(b, at, r.Uint32()|1<<31|1)
			if bytes.Equal(spoilt, b) {
				continue
			}
			if got, e := mail.Take(spoilt); e != api.ErrSum {
				t.Fatalf("%v, %d", got, e)
			}
		}
	}
}

func TestSame(t *testing.T) {
	a := mail.Msg{Kind: 1, Origin: 1, From: 3, To: 4, Txns: row(1, 1, 2)}
	b := mail.Msg{Kind: 1, Origin: 1, From: 3, To: 4, Txns: row(1, 1, 2)}
	if !mail.Same(a, b) || !mail.Same(mail.Msg{}, mail.Msg{Txns: []api.Txn{}}) {
		t.Error("the same aren't")
	}
	for i, change := range []func(*mail.Msg){
		func(m *mail.Msg) { m.Kind++ }, func(m *mail.Msg) { m.Origin++ }, func(m *mail.Msg) { m.From++ }, func(m *mail.Msg) { m.To++ }, func(m *mail.Msg) { m.Txns = m.Txns[:1] }, func(m *mail.Msg) { m.Txns = nil }, func(m *mail.Msg) { m.Txns = row(1, 2, 2) }, func(m *mail.Msg) { m.Txns = row(1, 1, 3) },
	} {
		c := b
		change(&c)
		if mail.Same(a, c) || mail.Same(c, a) {
			t.Errorf("case %d: same", i)
		}
	}
}
