package clock_test

import (
	"bytes"
	"math"
	"math/rand/v2"
	"slices"
	"testing"

	"packetboat/api"
	"packetboat/clock"
	"packetboat/vint"
)

const top = int64(api.MaxNumber)

// small are all clocks of a few numbers, some of which may not be.
func small(numbers ...int64) []api.Clock {
	var l []api.Clock
	for _, x := range numbers {
		for _, y := range numbers {
			for _, z := range numbers {
				l = append(l, api.Clock{x, y, z})
			}
		}
	}
	return l
}

func right(c api.Clock) bool {
	return min(c[0], c[1], c[2]) >= 0 && max(c[0], c[1], c[2]) <= top
}

func TestRight(t *testing.T) {
	for _, c := range small(0, 1, -1, top, top+1, math.MinInt64, math.MaxInt64) {
		if clock.Right(c) != right(c) {
			t.Errorf("%v: %v", c, clock.Right(c))
		}
	}
}

func TestCoversBeside(t *testing.T) {
	l := small(0, 2, -1, math.MaxInt64, math.MinInt64)
	for _, a := range l {
		for _, b := range l {
			covers := a[0] >= b[0] && a[1] >= b[1] && a[2] >= b[2]
			covered := a[0] <= b[0] && a[1] <= b[1] && a[2] <= b[2]
			if clock.Covers(a, b) != covers || clock.Beside(a, b) != (!covers && !covered) {
				t.Fatalf("%v, %v: %v, %v", a, b, clock.Covers(a, b), clock.Beside(a, b))
			}
		}
	}
}

func TestMerge(t *testing.T) {
	if c := clock.Merge(); c != (api.Clock{}) {
		t.Errorf("of none: %v", c)
	}
	l := small(0, 3, -2, math.MaxInt64, math.MinInt64)
	for _, a := range l {
		if c := clock.Merge(a); c != a {
			t.Fatalf("of %v: %v", a, c)
		}
		for _, b := range l {
			want := api.Clock{max(a[0], b[0]), max(a[1], b[1]), max(a[2], b[2])}
			two := []api.Clock{a, b}
			if c := clock.Merge(two...); c != want || two[0] != a || two[1] != b {
				t.Fatalf("of %v, %v: %v", a, b, c)
			}
			if !clock.Covers(want, a) || !clock.Covers(want, b) {
				t.Fatalf("%v doesn't cover %v and %v", want, a, b)
			}
		}
	}
	if c := clock.Merge(api.Clock{1, 5, 2}, api.Clock{4, 0, 2}, api.Clock{0, 0, 9}, api.Clock{3, 3, 3}); c != (api.Clock{4, 5, 9}) {
		t.Errorf("of four: %v", c)
	}
}

func TestStep(t *testing.T) {
	for _, c := range small(0, 4, top, -1, top+1) {
		for _, origin := range []int{-1, 0, 1, 2, 3, math.MaxInt, math.MinInt} {
			want, wantE := c, api.OK
			switch {
			case !right(c):
				want, wantE = api.Clock{}, api.ErrArg
			case origin < 0 || origin > 2:
				want, wantE = api.Clock{}, api.ErrName
			case c[origin] == top:
				want, wantE = api.Clock{}, api.ErrOver
			default:
				want[origin]++
			}
			if got, e := clock.Step(c, origin); got != want || e != wantE {
				t.Fatalf("Step(%v, %d): %v, %d", c, origin, got, e)
			}
		}
	}
}

func TestPutTake(t *testing.T) {
	if b, e := clock.Put(api.Clock{4, 0, 9}, api.Clock{5, 0, 7}); e != api.OK || !bytes.Equal(b, []byte{2, 0, 3}) {
		t.Errorf("%v, %d", b, e)
	}
	l := small(0, 1, 64, top-1, top)
	r := rand.New(rand.NewPCG(4, 1))
	for range 40 {
		l = append(l, api.Clock{r.Int64N(1 << 62), r.Int64N(300), r.Int64() >> r.IntN(63) & top})
	}
	for _, prev := range l {
		for _, c := range l {
			want := slices.Concat(vint.PutSigned(c[0]-prev[0]), vint.PutSigned(c[1]-prev[1]), vint.PutSigned(c[2]-prev[2]))
			b, e := clock.Put(prev, c)
			if e != api.OK || !bytes.Equal(b, want) {
				t.Fatalf("Put(%v, %v): %v, %d", prev, c, b, e)
			}
			back, size, e := clock.Take(prev, append(b, 7))
			if back != c || size != len(want) || e != api.OK {
				t.Fatalf("Take(%v, %v): %v, %d, %d", prev, b, back, size, e)
			}
		}
	}
}

func TestPutTakeWrong(t *testing.T) {
	good := api.Clock{1, 2, 3}
	for _, c := range small(-1, 0, top+1) {
		want := api.ErrArg
		if right(c) {
			want = api.OK
		}
		if b, e := clock.Put(c, good); e != want || e != api.OK && len(b) != 0 {
			t.Errorf("Put behind %v: %v, %d", c, b, e)
		}
		if b, e := clock.Put(good, c); e != want || e != api.OK && len(b) != 0 {
			t.Errorf("Put of %v: %v, %d", c, b, e)
		}
		if got, size, e := clock.Take(c, []byte{2, 2, 2}); e != want || e != api.OK && (size != 0 || got != api.Clock{}) {
			t.Errorf("Take behind %v: %v, %d, %d", c, got, size, e)
		}
		if _, _, e := clock.Take(c, nil); want == api.ErrArg && e != want {
			t.Errorf("Take of none behind %v: %d", c, e)
		}
	}
	for i, c := range []struct {
		prev api.Clock
		b    []byte
		e    api.Errno
	}{
		{good, nil, api.ErrShort}, {good, []byte{0}, api.ErrShort}, {good, []byte{0, 0}, api.ErrShort}, {good, []byte{0, 0, 128}, api.ErrShort}, {good, []byte{0, 128, 0, 0}, api.ErrForm},
		{good, []byte{3}, api.ErrForm}, {good, []byte{1, 5, 0}, api.ErrForm}, {good, []byte{1, 3, 7}, api.ErrForm}, {good, []byte{1, 3, 5}, api.OK}, {good, []byte{3, 128, 0}, api.ErrForm},
		{api.Clock{top, 0, 0}, []byte{2, 0, 0}, api.ErrForm}, {api.Clock{top - 1, 0, 0}, []byte{2, 0, 0}, api.OK}, {api.Clock{0, 0, top}, []byte{0, 0, 2}, api.ErrForm},
		{api.Clock{top, top, top}, slices.Concat(vint.PutSigned(math.MaxInt64), []byte{0, 0}), api.ErrForm}, {api.Clock{}, slices.Concat(vint.PutSigned(math.MinInt64), []byte{0, 0}), api.ErrForm}, {api.Clock{}, slices.Concat(vint.PutSigned(math.MaxInt64), []byte{0, 0}), api.ErrForm},
		{api.Clock{}, slices.Concat(vint.PutSigned(top), []byte{0, 0}), api.OK}, {api.Clock{}, slices.Concat(vint.PutSigned(top+1), []byte{0, 0}), api.ErrForm}, {api.Clock{top}, slices.Concat(vint.PutSigned(-top), []byte{0, 0}), api.OK}, {api.Clock{top}, slices.Concat(vint.PutSigned(-top-1), []byte{0, 0}), api.ErrForm},
	} {
		got, size, e := clock.Take(c.prev, c.b)
		if e != c.e || e != api.OK && (got != api.Clock{} || size != 0) {
			t.Errorf("case %d: %v, %d, %d", i, got, size, e)
		}
	}
}

// TestGoesOn: covering goes on, and what covers two covers their Merge.
func TestGoesOn(t *testing.T) {
	l := small(0, 1, 2)
	for _, a := range l {
		for _, b := range l {
			for _, c := range l {
				if clock.Covers(a, b) && clock.Covers(b, c) && !clock.Covers(a, c) {
					t.Fatalf("%v, %v, %v", a, b, c)
				}
				if clock.Covers(a, b) && clock.Covers(a, c) != clock.Covers(a, clock.Merge(b, c)) {
					t.Fatalf("%v doesn't cover the Merge of %v, %v", a, b, c)
				}
			}
		}
	}
}
