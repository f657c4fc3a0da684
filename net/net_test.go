package net_test

import (
	"bytes"
	"math"
	"math/rand/v2"
	"slices"
	"testing"

	"packetboat/api"
	"packetboat/crc"
	"packetboat/net"
)

type letter struct {
	to     int
	body   []byte
	spoilt bool
}

func same(a, b net.Letter) bool { return a.To == b.To && bytes.Equal(a.Body, b.Body) }

func agree(t *testing.T, n *net.Net, row []letter) {
	t.Helper()
	all := n.All()
	if n.Len() != len(row) || len(all) != len(row) {
		t.Fatalf("%d, %d, not %d", n.Len(), len(all), len(row))
	}
	for i, l := range all {
		if l.To != row[i].to || !bytes.Equal(l.Body, row[i].body) {
			t.Fatalf("letter %d: %v, not %v", i, l, row[i])
		}
	}
}

func TestExample(t *testing.T) {
	n := net.New()
	agree(t, n, nil)
	a, b := net.Letter{To: 0, Body: []byte("a")}, net.Letter{To: net.Sink, Body: []byte("b")}
	if !n.Send(a) || !n.Send(b) || !n.Double(0) {
		t.Fatal("no room")
	}
	if l, ok := n.Take(4); !ok || !same(l, b) {
		t.Errorf("%v, %v", l, ok)
	}
	agree(t, n, []letter{{to: 0, body: []byte("a")}, {to: 0, body: []byte("a")}})
}

func TestNone(t *testing.T) {
	n := net.New()
	for range 2 {
		for _, i := range []int{-1, 0, 1, math.MinInt, math.MaxInt} {
			if n.Len() > 0 && i >= 0 {
				continue
			}
			if l, ok := n.Take(i); ok || l.To != 0 || len(l.Body) != 0 || n.Double(i) || n.Turn(i, 0, 1) {
				t.Errorf("letter %d of %d", i, n.Len())
			}
		}
		_ = n.Send(net.Letter{To: 2, Body: []byte("x")})
	}
	if l, ok := n.Take(math.MaxInt); !ok || l.To != 2 {
		t.Errorf("%v, %v", l, ok)
	}
}

func TestPlaces(t *testing.T) {
	if net.Sink != 3 {
		t.Errorf("%d", net.Sink)
	}
	n := net.New()
	for _, to := range []int{-1, 4, math.MaxInt, math.MinInt} {
		if n.Send(net.Letter{To: to}) || n.Len() != 0 {
			t.Errorf("to %d", to)
		}
	}
	for to := range 4 {
		if !n.Send(net.Letter{To: to}) || n.Len() != to+1 {
			t.Errorf("to %d", to)
		}
	}
}

func TestFull(t *testing.T) {
	n := net.New()
	for i := range api.MostMail {
		if i%2 == 0 && !n.Send(net.Letter{Body: []byte{byte(i)}}) || i%2 == 1 && !n.Double(0) {
			t.Fatalf("letter %d", i)
		}
	}
	if n.Send(net.Letter{}) || n.Double(3) || n.Len() != 64 {
		t.Errorf("%d", n.Len())
	}
	if _, ok := n.Take(64); !ok || n.Len() != 63 || !n.Double(62) || n.Send(net.Letter{}) {
		t.Errorf("%d", n.Len())
	}
}

func TestSpoilt(t *testing.T) {
	n := net.New()
	_ = n.Send(net.Letter{To: 1, Body: []byte{0, 0}})
	for i, c := range []struct {
		at   int
		mask uint32
		want bool
		body []byte
	}{
		{0, 0, true, []byte{0, 0}}, {16, math.MaxUint32, true, []byte{0, 0}}, {-32, math.MaxUint32, true, []byte{0, 0}}, {math.MaxInt, 7, true, []byte{0, 0}}, {15, 3, true, []byte{0, 128}}, {0, 1, false, []byte{0, 128}}, {0, 0, false, []byte{0, 128}},
	} {
		if n.Turn(0, c.at, c.mask) != c.want || !bytes.Equal(n.All()[0].Body, c.body) {
			t.Errorf("case %d: %v", i, n.All())
		}
	}
	_ = n.Double(0)
	_ = n.Send(net.Letter{Body: []byte{0}})
	if n.Turn(1, 0, 1) || !n.Turn(2, 0, 1) || n.Turn(2, 0, 1) {
		t.Errorf("%v", n.All())
	}
	_, _ = n.Take(0)
	if n.Turn(0, 0, 1) {
		t.Error("a spoilt one's double isn't spoilt")
	}
}

// TestDoubleOfWhole: what was doubled ahead of a burst isn't spoilt by it.
func TestDoubleOfWhole(t *testing.T) {
	n := net.New()
	_ = n.Send(net.Letter{Body: []byte{5}})
	_ = n.Double(0)
	if !n.Turn(0, 0, 1) || !bytes.Equal(n.All()[1].Body, []byte{5}) || !n.Turn(1, 1, 1) {
		t.Errorf("%v", n.All())
	}
}

func TestSharesNothing(t *testing.T) {
	n := net.New()
	b := []byte{1, 2}
	_ = n.Send(net.Letter{Body: b})
	b[0] = 9
	n.All()[0].Body[0] = 9
	_ = n.Double(0)
	l, _ := n.Take(0)
	l.Body[0] = 9
	agree(t, n, []letter{{body: []byte{1, 2}}})
}

func TestAgainstModel(t *testing.T) {
	r := rand.New(rand.NewPCG(21, 1))
	for range 50 {
		n := net.New()
		var row []letter
		for range 300 {
			i := r.IntN(90) - 3
			there := i >= 0 && len(row) > 0
			at := 0
			if there {
				at = i % len(row)
			}
			switch r.IntN(8) {
			case 0, 1:
				got, ok := n.Take(i)
				if ok != there {
					t.Fatalf("Take(%d): %v", i, ok)
				}
				if there {
					if got.To != row[at].to || !bytes.Equal(got.Body, row[at].body) {
						t.Fatalf("Take(%d): %v, not %v", i, got, row[at])
					}
					row = slices.Delete(slices.Clone(row), at, at+1)
				}
			case 2, 3:
				want := there && len(row) < 64
				if n.Double(i) != want {
					t.Fatalf("Double(%d): %v", i, !want)
				}
				if want {
					row = append(row, row[at])
				}
			case 4:
				bit, mask := r.IntN(120)-40, r.Uint32()>>r.IntN(33)
				want := there && !row[at].spoilt
				if n.Turn(i, bit, mask) != want {
					t.Fatalf("Turn(%d, %d, %d): %v", i, bit, mask, !want)
				}
				if want {
					turned := crc.Turn(row[at].body, bit, mask)
					row[at].spoilt = !bytes.Equal(turned, row[at].body)
					row[at].body = turned
				}
			default:
				l := letter{to: r.IntN(6) - 1, body: make([]byte, r.IntN(8))}
				for j := range l.body {
					l.body[j] = byte(r.Uint32())
				}
				want := l.to >= 0 && l.to <= 3 && len(row) < 64
				if n.Send(net.Letter{To: l.to, Body: l.body}) != want {
					t.Fatalf("Send to %d, with %d there: %v", l.to, len(row), !want)
				}
				if want {
					row = append(row, l)
				}
			}
			agree(t, n, row)
		}
	}
}
