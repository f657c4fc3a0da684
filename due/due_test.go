package due_test

import (
	"math"
	"math/rand/v2"
	"slices"
	"testing"

	"packetboat/api"
	"packetboat/due"
)

// model is the document's words: what is due, as it was set.
type model struct {
	most int
	row  []due.Due
}

func (m *model) at(key int) int {
	return slices.IndexFunc(m.row, func(d due.Due) bool { return d.Key == key })
}

func (m *model) set(key int, at int64) api.Errno {
	if key < 0 || at < 0 {
		return api.ErrArg
	}
	i := m.at(key)
	if i < 0 && len(m.row) == m.most {
		return api.ErrFull
	}
	m.stop(key)
	m.row = append(m.row, due.Due{Key: key, At: at})
	return api.OK
}

func (m *model) stop(key int) bool {
	i := m.at(key)
	if i >= 0 {
		m.row = slices.Delete(m.row, i, i+1)
	}
	return i >= 0
}

func (m *model) all() []due.Due {
	l := slices.Clone(m.row)
	slices.SortStableFunc(l, func(a, b due.Due) int {
		switch {
		case a.At < b.At:
			return -1
		case a.At > b.At:
			return 1
		}
		return 0
	})
	return l
}

func (m *model) take(now int64) []due.Due {
	var l []due.Due
	for _, d := range m.all() {
		if d.At <= now {
			l = append(l, d)
			m.stop(d.Key)
		}
	}
	return l
}

func TestNew(t *testing.T) {
	for _, most := range []int{-1, 1001, math.MaxInt, math.MinInt} {
		if l, e := due.New(most); l != nil || e != api.ErrArg {
			t.Errorf("New(%d): %d", most, e)
		}
	}
	for _, most := range []int{0, 1, 1000} {
		l, e := due.New(most)
		if e != api.OK || len(l.All()) != 0 || len(l.Take(math.MaxInt64)) != 0 {
			t.Fatalf("New(%d): %d", most, e)
		}
		for key := range most {
			if e := l.Set(key, 1); e != api.OK {
				t.Fatalf("%d of %d: %d", key, most, e)
			}
		}
		if e := l.Set(most, 1); e != api.ErrFull || len(l.All()) != most {
			t.Errorf("one more than %d: %d", most, e)
		}
		if most > 0 && l.Set(most-1, 2) != api.OK {
			t.Error("one that is there")
		}
	}
}

func TestExample(t *testing.T) {
	l, _ := due.New(9)
	_, _, _, _ = l.Set(1, 5), l.Set(2, 3), l.Set(3, 5), l.Set(1, 5)
	if got := l.Take(9); !slices.Equal(got, []due.Due{{2, 3}, {3, 5}, {1, 5}}) {
		t.Errorf("%v", got)
	}
}

func TestWrong(t *testing.T) {
	l, _ := due.New(1)
	_ = l.Set(7, 4)
	for i, c := range []struct {
		key int
		at  int64
		e   api.Errno
	}{{-1, 0, api.ErrArg}, {7, -1, api.ErrArg}, {0, -1, api.ErrArg}, {math.MinInt, math.MinInt64, api.ErrArg}, {0, 0, api.ErrFull}, {math.MaxInt, 9, api.ErrFull}} {
		if e := l.Set(c.key, c.at); e != c.e {
			t.Errorf("case %d: %d", i, e)
		}
	}
	if at, ok := l.At(7); at != 4 || !ok {
		t.Errorf("%d, %v", at, ok)
	}
	for _, key := range []int{-1, 0, math.MaxInt} {
		if at, ok := l.At(key); at != 0 || ok || l.Stop(key) {
			t.Errorf("%d: %d, %v", key, at, ok)
		}
	}
	if got := l.Take(3); len(got) != 0 {
		t.Errorf("early: %v", got)
	}
	if got := l.Take(math.MinInt64); len(got) != 0 {
		t.Errorf("early: %v", got)
	}
	if e := l.Set(7, math.MaxInt64); e != api.OK || len(l.Take(math.MaxInt64-1)) != 0 || len(l.Take(math.MaxInt64)) != 1 || l.Stop(7) {
		t.Errorf("%d", e)
	}
	if l.Set(math.MaxInt, 0) != api.OK || len(l.Take(0)) != 1 {
		t.Error("at 0")
	}
}

func TestAgainstModel(t *testing.T) {
	r := rand.New(rand.NewPCG(12, 1))
	for range 150 {
		most := r.IntN(12)
		l, _ := due.New(most)
		m := &model{most: most}
		for range 150 {
			key, at := r.IntN(15)-1, r.Int64N(12)-1
			switch r.IntN(6) {
			case 0:
				if got, want := l.Stop(key), m.stop(key); got != want {
					t.Fatalf("Stop(%d): %v", key, got)
				}
			case 1:
				got := l.Take(at)
				if want := m.take(at); !slices.Equal(got, want) {
					t.Fatalf("Take(%d): %v, not %v", at, got, want)
				}
			default:
				if got, want := l.Set(key, at), m.set(key, at); got != want {
					t.Fatalf("Set(%d, %d): %d, not %d", key, at, got, want)
				}
			}
			if !slices.Equal(l.All(), m.all()) {
				t.Fatalf("All: %v, not %v", l.All(), m.all())
			}
			for key := range 15 {
				at, ok := l.At(key)
				i := m.at(key)
				if ok != (i >= 0) || ok && at != m.row[i].At || !ok && at != 0 {
					t.Fatalf("At(%d): %d, %v", key, at, ok)
				}
			}
		}
	}
}

func TestAllSharesNothing(t *testing.T) {
	l, _ := due.New(3)
	_ = l.Set(1, 1)
	_ = l.Set(2, 2)
	l.All()[0] = due.Due{Key: 9, At: 9}
	if got := l.Take(5); !slices.Equal(got, []due.Due{{1, 1}, {2, 2}}) {
		t.Errorf("%v", got)
	}
}
