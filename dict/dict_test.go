package dict_test

import (
	"bytes"
	"math"
	"math/rand/v2"
	"slices"
	"strconv"
	"strings"
	"testing"

	"packetboat/api"
	"packetboat/dict"
	"packetboat/vint"
)

// model is the document's words: keys by their places, and these in the order in which their keys came.
type model struct {
	keys  []string
	order []int
}

func (m *model) put(key string) []byte {
	if i := slices.Index(m.keys, key); i >= 0 {
		return vint.Put(uint64(i) + 1)
	}
	if len(m.keys) < api.MostDict {
		m.order = append(m.order, len(m.keys))
		m.keys = append(m.keys, key)
	} else {
		m.keys[m.order[0]] = key
		m.order = append(m.order[1:], m.order[0])
	}
	return slices.Concat([]byte{0}, vint.Put(uint64(len(key))), []byte(key))
}

func agree(t *testing.T, d *dict.Dict, m *model) {
	t.Helper()
	if !slices.Equal(d.Keys(), m.keys) {
		t.Fatalf("Keys: %q, not %q", d.Keys(), m.keys)
	}
	for i, key := range m.keys {
		if d.At(key) != i {
			t.Fatalf("At(%q): %d, not %d", key, d.At(key), i)
		}
	}
}

func TestExample(t *testing.T) {
	d := dict.New()
	if len(d.Keys()) != 0 || d.At("") != -1 || d.At("a") != -1 {
		t.Errorf("New: %q", d.Keys())
	}
	for i, c := range []struct {
		key  string
		want []byte
	}{{"a", []byte{0, 1, 97}}, {"b", []byte{0, 1, 98}}, {"a", []byte{1}}, {"", []byte{0, 0}}, {"", []byte{3}}, {"b", []byte{2}}} {
		if b, e := d.Put(c.key); e != api.OK || !bytes.Equal(b, c.want) {
			t.Errorf("case %d: %v, %d", i, b, e)
		}
	}
}

func TestGoesRound(t *testing.T) {
	r := rand.New(rand.NewPCG(5, 1))
	for _, kinds := range []int{5, 8, 9, 12, 40} {
		d, other, m := dict.New(), dict.New(), &model{}
		for range 400 {
			key := strings.Repeat("k", r.IntN(3)*30) + strconv.Itoa(r.IntN(kinds))
			want := m.put(key)
			b, e := d.Put(key)
			if e != api.OK || !bytes.Equal(b, want) {
				t.Fatalf("Put(%q): %v, %d, not %v", key, b, e, want)
			}
			agree(t, d, m)
			text := append(b, 1, 2)
			got, size, e := other.Take(text)
			if e != api.OK || got != key || size != len(want) {
				t.Fatalf("Take(%v): %q, %d, %d", b, got, size, e)
			}
			agree(t, other, m)
			if l := d.Keys(); len(l) > api.MostDict {
				t.Fatalf("%d keys", len(l))
			}
			if r.IntN(150) == 0 {
				d.Reset()
				other.Reset()
				m = &model{}
				agree(t, d, m)
			}
			if r.IntN(20) == 0 { // a copy goes on in the other's place, and leaves it alone
				was := d
				d = d.Copy()
				other = other.Copy()
				_, _ = was.Put("strange")
				_, _ = was.Put("stranger")
				agree(t, d, m)
				if d.At("strange") != -1 {
					t.Fatal("a copy knows what came behind")
				}
			}
		}
	}
}

func TestResetThenNew(t *testing.T) {
	d := dict.New()
	for i := range 11 {
		_, _ = d.Put(strconv.Itoa(i))
	}
	c := d.Copy()
	d.Reset()
	if len(d.Keys()) != 0 || d.At("10") != -1 || len(c.Keys()) != 8 || c.At("10") != 2 {
		t.Fatalf("%q, %q", d.Keys(), c.Keys())
	}
	m := &model{}
	for i := range 20 {
		key := strconv.Itoa(i % 9)
		if b, _ := d.Put(key); !bytes.Equal(b, m.put(key)) {
			t.Fatalf("behind a reset, %d: %v", i, b)
		}
	}
	if b, _ := c.Put("x"); !bytes.Equal(b, []byte{0, 1, 120}) || c.At("x") != 3 || c.At("3") != -1 {
		t.Errorf("a copy doesn't know which one came first: %q", c.Keys())
	}
}

func TestKeysSharesNothing(t *testing.T) {
	d := dict.New()
	_, _ = d.Put("a")
	_, _ = d.Put("b")
	d.Keys()[0] = "z"
	_ = append(d.Keys()[:1], "y")
	if !slices.Equal(d.Keys(), []string{"a", "b"}) {
		t.Errorf("%q", d.Keys())
	}
}

func TestLongKeys(t *testing.T) {
	d := dict.New()
	long := strings.Repeat("x", api.MostKey)
	if b, e := d.Put(long + "y"); e != api.ErrLong || len(b) != 0 || len(d.Keys()) != 0 {
		t.Errorf("Put: %v, %d", b, e)
	}
	b, e := d.Put(long)
	if e != api.OK || len(b) != 66 {
		t.Errorf("Put: %v, %d", b, e)
	}
	if key, size, e := dict.New().Take(b); key != long || size != 66 || e != api.OK {
		t.Errorf("Take: %q, %d, %d", key, size, e)
	}
}

func TestTakeWrong(t *testing.T) {
	d := dict.New()
	for _, key := range []string{"a", "", "ccc"} {
		_, _ = d.Put(key)
	}
	for i, c := range []struct {
		b []byte
		e api.Errno
	}{
		{nil, api.ErrShort}, {[]byte{128}, api.ErrShort}, {[]byte{128, 0}, api.ErrForm}, {[]byte{4}, api.ErrName}, {[]byte{100}, api.ErrName}, {vint.Put(math.MaxUint64), api.ErrName}, {vint.Put(1 << 63), api.ErrName},
		{[]byte{0}, api.ErrShort}, {[]byte{0, 128}, api.ErrShort}, {[]byte{0, 129, 0}, api.ErrForm}, {[]byte{0, 65}, api.ErrLong}, {append([]byte{0, 65}, make([]byte, 80)...), api.ErrLong}, {append([]byte{0}, vint.Put(math.MaxUint64)...), api.ErrLong}, {append([]byte{0}, vint.Put(1<<63)...), api.ErrLong},
		{[]byte{0, 64}, api.ErrShort}, {[]byte{0, 1}, api.ErrShort}, {[]byte{0, 3, 'c', 'c'}, api.ErrShort}, {append([]byte{0, 64}, make([]byte, 63)...), api.ErrShort},
		{[]byte{0, 1, 'a'}, api.ErrForm}, {[]byte{0, 0}, api.ErrForm}, {[]byte{0, 3, 'c', 'c', 'c', 9}, api.ErrForm},
	} {
		key, size, e := d.Take(c.b)
		if key != "" || size != 0 || e != c.e {
			t.Errorf("case %d: %q, %d, %d", i, key, size, e)
		}
	}
	if !slices.Equal(d.Keys(), []string{"a", "", "ccc"}) {
		t.Errorf("changed: %q", d.Keys())
	}
	for i, want := range []string{"a", "", "ccc"} {
		if key, size, e := d.Take([]byte{byte(i + 1), 7}); key != want || size != 1 || e != api.OK {
			t.Errorf("place %d: %q, %d, %d", i, key, size, e)
		}
	}
	if _, _, e := dict.New().Take([]byte{1}); e != api.ErrName {
		t.Errorf("of one that knows none: %d", e)
	}
}

// TestForgotten: a key that had to make room may be told by itself again, and its place is another one's.
func TestForgotten(t *testing.T) {
	d := dict.New()
	for i := range 9 {
		_, _ = d.Put(strconv.Itoa(i))
	}
	if d.At("0") != -1 || d.At("8") != 0 || d.At("1") != 1 {
		t.Fatalf("%q", d.Keys())
	}
	if key, size, e := d.Take([]byte{0, 1, '0'}); key != "0" || size != 3 || e != api.OK || d.At("0") != 1 || d.At("1") != -1 {
		t.Errorf("%q, %d, %d, %q", key, size, e, d.Keys())
	}
	if key, _, e := d.Take([]byte{8}); key != "7" || e != api.OK {
		t.Errorf("%q, %d", key, e)
	}
	if _, _, e := d.Take([]byte{9}); e != api.ErrName {
		t.Errorf("%d", e)
	}
}
