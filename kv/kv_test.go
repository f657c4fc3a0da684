package kv_test

import (
	"bytes"
	"math"
	"math/rand/v2"
	"slices"
	"sort"
	"strconv"
	"strings"
	"testing"

	"packetboat/api"
	"packetboat/kv"
	"packetboat/vint"
)

// textOf is the document's words.
func textOf(values map[string]string) []byte {
	var keys []string
	for key := range values {
		keys = append(keys, key)
	}
	sort.Strings(keys)
	var b []byte
	for _, key := range keys {
		b = slices.Concat(b, vint.Put(uint64(len(key))), []byte(key), vint.Put(uint64(len(values[key]))), []byte(values[key]))
	}
	return b
}

func agree(t *testing.T, s *kv.Store, values map[string]string) {
	t.Helper()
	if !bytes.Equal(s.Text(), textOf(values)) {
		t.Fatalf("%q, not %q", s.Text(), values)
	}
	keys := s.Keys()
	if len(keys) != len(values) || !slices.IsSorted(keys) {
		t.Fatalf("%q", keys)
	}
	for _, key := range keys {
		want, there := values[key]
		if got, ok := s.Get(key); !ok || !there || got != want {
			t.Fatalf("%q: %q, %v", key, got, ok)
		}
	}
	if got, ok := s.Get("nobody"); got != "" || ok {
		t.Fatalf("%q, %v", got, ok)
	}
}

func TestExample(t *testing.T) {
	s := kv.New()
	agree(t, s, nil)
	s.Apply([]api.Write{{Key: "b", Value: "x"}, {Key: "a", Value: "yz"}, {Key: "b", Gone: true}})
	if b := s.Text(); !bytes.Equal(b, []byte{1, 97, 2, 121, 122}) {
		t.Errorf("%v", b)
	}
}

func random(r *rand.Rand) []api.Write {
	var l []api.Write
	for range r.IntN(20) {
		w := api.Write{Key: []string{"", "a", "b", "ab", "\xff", "z\x00", strings.Repeat("k", 200)}[r.IntN(7)], Gone: r.IntN(3) == 0}
		if r.IntN(4) > 0 {
			w.Value = strings.Repeat(strconv.Itoa(r.IntN(9)), r.IntN(3)*100)
		}
		l = append(l, w)
	}
	return l
}

func TestAgainstMap(t *testing.T) {
	r := rand.New(rand.NewPCG(16, 1))
	for range 100 {
		s := kv.New()
		values := map[string]string{}
		var txns []api.Txn
		for range 6 {
			l := random(r)
			old := slices.Clone(l)
			s.Apply(l)
			if !slices.Equal(l, old) {
				t.Fatal("Apply changed its writes")
			}
			txns = append(txns, api.Txn{Writes: l})
			for _, w := range l {
				if w.Gone {
					delete(values, w.Key)
				} else {
					values[w.Key] = w.Value
				}
			}
			agree(t, s, values)
			agree(t, kv.Fold(txns), values)
			back, e := kv.Load(s.Text())
			if e != api.OK {
				t.Fatal(e)
			}
			agree(t, back, values)
			c := s.Copy()
			c.Apply([]api.Write{{Key: "new", Value: "1"}, {Key: "a", Gone: true}, {Key: "b", Value: "other"}})
			agree(t, s, values)
			if v, ok := c.Get("b"); v != "other" || !ok {
				t.Fatalf("%q", v)
			}
			c = s.Copy()
			s.Apply([]api.Write{{Key: "new", Value: "1"}})
			agree(t, c, values)
			s = c
		}
	}
}

func TestFold(t *testing.T) {
	agree(t, kv.Fold(nil), nil)
	agree(t, kv.Fold([]api.Txn{{Writes: []api.Write{{Key: "a", Value: "1"}, {Key: "b", Value: "1"}}}, {Origin: 2}, {Origin: 1, Writes: []api.Write{{Key: "a", Value: "2"}, {Key: "b", Gone: true}}}}), map[string]string{"a": "2"})
	agree(t, kv.Fold([]api.Txn{{Writes: []api.Write{{Key: "a", Gone: true, Value: "x"}, {Key: "", Value: ""}}}}), map[string]string{"": ""})
}

func TestKeysSharesNothing(t *testing.T) {
	s := kv.New()
	s.Apply([]api.Write{{Key: "a"}, {Key: "b"}})
	s.Keys()[0] = "z"
	s.Text()[1] = 'z'
	agree(t, s, map[string]string{"a": "", "b": ""})
	text := s.Text()
	back, _ := kv.Load(text)
	text[1] = 'z'
	agree(t, back, map[string]string{"a": "", "b": ""})
}

func TestLoadWrong(t *testing.T) {
	join := func(l ...[]byte) []byte { return slices.Concat(l...) }
	for i, c := range []struct {
		b []byte
		e api.Errno
	}{
		{nil, api.OK}, {[]byte{0, 0}, api.OK}, {[]byte{0, 0, 1, 'a', 0}, api.OK}, {[]byte{1, 'a', 0, 2, 'a', 0, 0}, api.OK}, {[]byte{1, 'a', 0, 1, 'b', 0}, api.OK},
		{[]byte{128}, api.ErrShort}, {[]byte{128, 0}, api.ErrForm}, {[]byte{0}, api.ErrShort}, {[]byte{1}, api.ErrShort}, {[]byte{1, 'a'}, api.ErrShort}, {[]byte{1, 'a', 1}, api.ErrShort}, {[]byte{1, 'a', 128, 0}, api.ErrForm}, {[]byte{2, 'a'}, api.ErrShort}, {[]byte{1, 'a', 0, 5}, api.ErrShort},
		{vint.Put(math.MaxUint64), api.ErrShort}, {vint.Put(1 << 63), api.ErrShort}, {join([]byte{1, 'a'}, vint.Put(math.MaxUint64)), api.ErrShort}, {join([]byte{1, 'a'}, vint.Put(1<<63), []byte{1}), api.ErrShort},
		{[]byte{1, 'b', 0, 1, 'a', 0}, api.ErrForm}, {[]byte{1, 'a', 0, 1, 'a', 0}, api.ErrForm}, {[]byte{0, 0, 0, 0}, api.ErrForm}, {[]byte{1, 'a', 0, 0, 0}, api.ErrForm}, {[]byte{2, 'a', 'b', 0, 1, 'a', 0}, api.ErrForm}, {[]byte{1, 'b', 0, 1, 'a'}, api.ErrForm}, {[]byte{1, 'b', 0, 1, 'a', 9}, api.ErrForm}, {[]byte{1, 'b', 0, 2, 'a'}, api.ErrShort}, {[]byte{1, 'a', 0, 1, 'c', 0, 1, 'b', 0}, api.ErrForm}, {[]byte{1, 255, 0, 1, 'a', 0}, api.ErrForm},
	} {
		s, e := kv.Load(c.b)
		if e != c.e || (s == nil) != (e != api.OK) {
			t.Errorf("case %d: %d, not %d", i, e, c.e)
		}
		if s != nil && !bytes.Equal(s.Text(), c.b) {
			t.Errorf("case %d: %v", i, s.Text())
		}
	}
}
