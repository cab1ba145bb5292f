package file

import (
	"math"
	"strings"
	"testing"

	"carrel/api"
)

func sets(t *testing.T, name, data string, at int) *Rider {
	t.Helper()
	x, _ := having(t, 260, []api.File{{Name: name, Data: data}})
	r, e := Open(x, name, at)
	if e != api.OK || r == nil || r.At() != at {
		t.Fatalf("Open at %d: %v", at, e)
	}
	return r
}

// rest is all that a rider tells, up to the end.
func rest(t *testing.T, r *Rider) string {
	t.Helper()
	var b []byte
	from := r.At()
	for c, ok := r.Next(); ok; c, ok = r.Next() {
		b = append(b, c)
		if r.At() != from+len(b) {
			t.Fatalf("behind %d bytes from %d on it stands at %d", len(b), from, r.At())
		}
	}
	for range 3 { // at the end it stays
		if c, ok := r.Next(); c != 0 || ok || r.At() != from+len(b) {
			t.Fatalf("at the end: %d, %v, %d", c, ok, r.At())
		}
	}
	return string(b)
}

func TestOpenAnywhere(t *testing.T) { // P18.5
	data := some(2500, 1)
	for _, at := range []int{0, 1, 2, 1022, 1023, 1024, 1025, 2047, 2048, 2049, 2498, 2499, 2500} {
		if s := rest(t, sets(t, "a", data, at)); s != data[at:] {
			t.Errorf("from %d on: %d bytes", at, len(s))
		}
	}
	if s := rest(t, sets(t, "a", "", 0)); s != "" {
		t.Error(s)
	}
	if s := rest(t, sets(t, "a", "\x00\x00", 1)); s != "\x00" { // a nought is a byte, and true
		t.Errorf("%q", s)
	}
}

func TestOpenNowhere(t *testing.T) { // P18.5: ErrFileAt
	x, _ := having(t, 16, []api.File{{Name: "a", Data: "hello"}, {Name: "n"}, {Name: "s", Data: some(1024, 1)}})
	for _, one := range []struct {
		name string
		at   int
	}{
		{"a", -1}, {"a", 6}, {"a", 1024}, {"a", math.MaxInt}, {"a", math.MinInt}, {"a", 1 << 32}, {"a", 1<<32 + 5},
		{"n", -1}, {"n", 1}, {"s", 1025}, {"s", -1},
	} {
		if r, e := Open(x, one.name, one.at); r != nil || e != api.ErrFileAt {
			t.Error(one, r, e)
		}
	}
	for _, at := range []int{-1, 0, 7} { // Read's errors stand ahead of that
		if r, e := Open(x, "b", at); r != nil || e != api.ErrDirNone {
			t.Error(at, r, e)
		}
	}
}

func TestRidersOfTheirOwn(t *testing.T) { // each has its own place
	x, _ := having(t, 16, []api.File{{Name: "a", Data: "hello"}, {Name: "b", Data: "xy"}})
	p, _ := Open(x, "a", 0)
	q, _ := Open(x, "a", 3)
	o, _ := Open(x, "b", 0)
	var told strings.Builder
	for range 3 {
		for _, r := range []*Rider{p, q, o} {
			if c, ok := r.Next(); ok {
				told.WriteByte(c)
			}
		}
	}
	if told.String() != "hlxeoyl" || p.At() != 3 || q.At() != 5 || o.At() != 2 {
		t.Error(told.String(), p.At(), q.At(), o.At())
	}
}

func TestBehindOpen(t *testing.T) { // P18.5: what is done to the file then is not seen
	data := some(3000, 1)
	for what, do := range map[string]func(t *testing.T) *Rider{
		"Write": func(t *testing.T) *Rider {
			x, _ := having(t, 30, []api.File{{Name: "a", Data: data}})
			r, _ := Open(x, "a", 10)
			for n := range 5 {
				writes(t, x, "a", some(5000, n))
			}
			return r
		},
		"Delete": func(t *testing.T) *Rider {
			x, _ := having(t, 30, []api.File{{Name: "a", Data: data}})
			r, _ := Open(x, "a", 10)
			x.Delete("a")
			writes(t, x, "b", some(20000, 2))
			return r
		},
		"Rename": func(t *testing.T) *Rider {
			x, _ := having(t, 30, []api.File{{Name: "a", Data: data}})
			r, _ := Open(x, "a", 10)
			x.Rename("a", "b")
			return r
		},
		"the disk's writes": func(t *testing.T) *Rider {
			x, d := having(t, 30, []api.File{{Name: "a", Data: data}})
			r, _ := Open(x, "a", 10)
			for n := range 30 {
				lay(t, d, n, page('x'))
			}
			if _, e := Read(x, "a"); e != api.ErrFileForm {
				t.Error(e)
			}
			return r
		},
	} {
		r := do(t)
		if r.At() != 10 || rest(t, r) != data[10:] {
			t.Errorf("%s was seen", what)
		}
	}
}

func TestNilRider(t *testing.T) { // P18.5
	var r *Rider
	for _, one := range []*Rider{r, {}} { // and one that no call gave
		for range 3 {
			if c, ok := one.Next(); c != 0 || ok || one.At() != 0 {
				t.Error(c, ok, one.At())
			}
		}
	}
}
