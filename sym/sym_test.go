package sym

import (
	"bytes"
	"math/rand"
	"slices"
	"strconv"
	"strings"
	"testing"

	"carrel/api"
	"carrel/word"
)

func TestTheChaptersExamples(t *testing.T) { // P13.2, P13.3
	s := api.Sym{
		Name:   "A",
		Consts: []api.Const{{Name: "k", Type: api.Integer, N: -1, Export: true}},
		Procs:  []api.SymProc{{Name: "P", Params: []api.SymVar{{Form: api.Char, Open: true, Ref: true}}, Result: api.Integer}},
	}
	b := writes(t, s)
	want := "CRS1\x01\x41\x01\x01\x6B\x01\xFF\xFF\xFF\xFF\x00\x01\x01\x50\x01\x03\x03\x01"
	if string(b) != want {
		t.Errorf("%x", b)
	}
	reads(t, b, s)
	b[9] = 6
	refuses(t, b, 9, api.ErrSymByte)
}

func TestEncodeOfEverything(t *testing.T) { // P13.2
	if got, want := writes(t, sample()), whole(sampleParts()...); !bytes.Equal(got, want) {
		t.Errorf("got %x\nwant %x", got, want)
	}
	if got := writes(t, api.Sym{Name: "A"}); string(got) != "CRS1\x01A\x00\x00\x00" {
		t.Errorf("%x", got)
	}
}

func TestEncodeOfEachNumber(t *testing.T) { // P13.2, P13.3: the lowest 32 bits of N; of an Integer it has its sign again
	for _, x := range []struct {
		form int
		n    int64
		want string
	}{
		{api.Integer, -1 << 31, "\x00\x00\x00\x80"}, {api.Integer, -1, "\xFF\xFF\xFF\xFF"}, {api.Integer, 0, "\x00\x00\x00\x00"},
		{api.Integer, 1, "\x01\x00\x00\x00"}, {api.Integer, 1<<31 - 1, "\xFF\xFF\xFF\x7F"}, {api.Integer, 0x01020304, "\x04\x03\x02\x01"},
		{api.Boolean, 0, "\x00\x00\x00\x00"}, {api.Boolean, 1, "\x01\x00\x00\x00"},
		{api.Char, 0, "\x00\x00\x00\x00"}, {api.Char, 255, "\xFF\x00\x00\x00"},
		{api.Set, 0, "\x00\x00\x00\x00"}, {api.Set, 1 << 31, "\x00\x00\x00\x80"}, {api.Set, 1<<32 - 1, "\xFF\xFF\xFF\xFF"},
	} {
		s := api.Sym{Name: "A", Consts: []api.Const{{Name: "k", Type: x.form, N: x.n, Export: true}}}
		b := writes(t, s)
		if want := "CRS1\x01A\x01\x01k" + string([]byte{byte(x.form)}) + x.want + "\x00\x00"; string(b) != want {
			t.Errorf("%x; want %x", b, want)
		}
		reads(t, b, s)
	}
}

func TestEncodeTakesNilAndEmptyListsAlike(t *testing.T) { // R3
	bare := api.Sym{Name: "A", Procs: []api.SymProc{{Name: "P"}}}
	empty := api.Sym{Name: "A", Consts: []api.Const{}, Vars: []api.SymVar{}, Procs: []api.SymProc{{Name: "P", Params: []api.SymVar{}}}}
	if got, want := writes(t, empty), writes(t, bare); !bytes.Equal(got, want) {
		t.Errorf("%x; %x", got, want)
	}
	if keyOf(t, empty) != keyOf(t, bare) {
		t.Error("another key")
	}
}

func TestKey(t *testing.T) { // P13.2
	for _, s := range []api.Sym{sample(), {Name: "A"}, greatest()} {
		if got, want := keyOf(t, s), word.Sum(writes(t, s)); got != want {
			t.Errorf("%x; want %x", got, want)
		}
	}
	if key := keyOf(t, api.Sym{Name: "A"}); key != word.Sum([]byte("CRS1\x01A\x00\x00\x00")) {
		t.Errorf("%x", key)
	}
}

func TestEncodeAndKeyOfWhatIsNotRight(t *testing.T) { // P13.2
	for _, x := range rightCases() {
		s := sample()
		x.change(&s)
		want := api.ErrSymForm
		if x.right {
			want = api.OK
		}
		b, e := Encode(s)
		if e != want || (len(b) > 0) != x.right {
			t.Errorf("%s: %d bytes, %v", x.what, len(b), e)
		}
		key, e := Key(s)
		if e != want || key != 0 && !x.right {
			t.Errorf("%s: %x, %v", x.what, key, e)
		}
	}
	if b, e := Encode(api.Sym{}); len(b) > 0 || e != api.ErrSymForm {
		t.Error(b, e)
	}
}

func TestDecodeOfEverything(t *testing.T) { // P13.3
	reads(t, whole(sampleParts()...), sample())
	reads(t, []byte("CRS1\x01A\x00\x00\x00"), api.Sym{Name: "A"})
}

// greatest is the right symbols with the most bytes.
func greatest() api.Sym {
	name := func(kind string, n int) string { return kind + strings.Repeat("x", 16) + strconv.Itoa(100+n) }
	s := api.Sym{Name: name("M", 0)}
	for i := range api.MaxVars {
		s.Consts = append(s.Consts, api.Const{Name: name("c", i), Type: api.String, S: strings.Repeat("\xFF", api.MaxStr), Export: true})
		s.Vars = append(s.Vars, api.SymVar{Name: name("v", i), Form: api.Byte, Len: api.MaxSize})
	}
	for i := range api.MaxProcs {
		p := api.SymProc{Name: name("p", i), Result: api.Set}
		for range api.MaxParams {
			p.Params = append(p.Params, api.SymVar{Form: api.Set, Open: true, Ref: true})
		}
		s.Procs = append(s.Procs, p)
	}
	return s
}

func TestTheGreatestSymbols(t *testing.T) { // P13.2, P13.3, P13.5
	b := writes(t, greatest())
	if len(b) > api.MaxObject {
		t.Fatalf("%d bytes", len(b))
	}
	reads(t, b, greatest())
}

func TestDecodeOfNoBeginning(t *testing.T) { // P13.3
	for _, b := range []string{"", "C", "CRS", "CRS2", "crs1", "XRS1", "CXS1", "CRX1", "CRS0\x01A\x00\x00\x00", " CRS1\x01A\x00\x00\x00", "CRO1\x01A\x00\x00\x00"} {
		refuses(t, []byte(b), 0, api.ErrSymByte)
	}
	refuses(t, nil, 0, api.ErrSymByte)
	refuses(t, []byte("CRS1"), 4, api.ErrSymByte) // right up to where the name should be
}

func TestDecodeOfTooManyBytes(t *testing.T) { // P13.3
	noughts := strings.Repeat("\x00", api.MaxObject)
	refuses(t, []byte("CRS1"+noughts[4:]), 8, api.ErrSymByte) // read up to where Procs end
	refuses(t, []byte("CRS1"+noughts[3:]), 0, api.ErrSymByte)
	refuses(t, []byte("CRS1"+noughts), 0, api.ErrSymByte)
}

func TestDecodeOfBytesThatEnd(t *testing.T) { // P13.3
	parts := sampleParts()
	for which, part := range parts {
		at := placeOf(parts, which)
		for n := range len(part) {
			refuses(t, whole(strings.Join(parts[:which], ""), part[:n]), at, api.ErrSymByte)
		}
	}
}

func TestDecodeOfBytesBehindAll(t *testing.T) { // P13.3
	parts := sampleParts()
	for _, more := range []string{"\x00", "\x80", "\x00\x00\x00\x00", "CRS1"} {
		refuses(t, whole(append(slices.Clone(parts), more)...), placeOf(parts, len(parts)), api.ErrSymByte)
	}
	spoilt := append(with(partName, "\x040od1"), "\x00") // no NAME, but that is asked for behind the bytes
	refuses(t, whole(spoilt...), placeOf(parts, len(parts)), api.ErrSymByte)
}

func TestDecodeOfWhatIsNone(t *testing.T) { // P13.3
	numbers := []int{partConsts, partVars, partVarLen, partProcs, partParams}
	texts := []int{partName, partConst, partString, partVar, partProc}
	for _, which := range append(numbers, texts...) { // a text begins with a number
		for _, none := range []string{"\x80\x00", "\x81\x80\x00", number(1 << 32), "\x80\x80\x80\x80\x80\x01", "\xFF\xFF\xFF\xFF\xFF"} {
			refuses(t, whole(with(which, none)...), placeOf(sampleParts(), which), api.ErrSymByte)
		}
	}
}

func TestDecodeOfTooManyThings(t *testing.T) { // P13.3
	for _, x := range []struct {
		which int
		most  uint64
	}{{partConsts, 200}, {partVars, 200}, {partProcs, 100}, {partParams, 8}} {
		parts := sampleParts()[:x.which]
		at := placeOf(parts, x.which)
		refuses(t, whole(append(parts, number(x.most+1))...), at, api.ErrSymByte)
		refuses(t, whole(append(parts, number(1<<32-1))...), at, api.ErrSymByte)
		most := number(x.most) // as many may be: the bytes end where the first one should stand
		refuses(t, whole(append(parts, most)...), at+len(most), api.ErrSymByte)
	}
}

func TestDecodeOfTooLongTexts(t *testing.T) { // P13.3
	for _, x := range []struct{ which, most int }{{partName, 20}, {partConst, 20}, {partString, 200}, {partVar, 20}, {partProc, 20}} {
		at := placeOf(sampleParts(), x.which)
		most := with(x.which, text(strings.Repeat("y", x.most)))
		if _, _, e := Decode(whole(most...)); e != api.OK {
			t.Errorf("a text of %d bytes: %v", x.most, e)
		}
		refuses(t, whole(with(x.which, text(strings.Repeat("y", x.most+1)))...), at, api.ErrSymByte)
		refuses(t, whole(with(x.which, number(1<<32-1))...), at, api.ErrSymByte)
	}
}

func TestDecodeOfEachByte(t *testing.T) { // P13.3
	for _, x := range []struct {
		which int
		may   string
	}{
		{partConstType, "\x01\x02\x03\x05\x07"}, {partVarForm, "\x01\x02\x03\x04\x05"},
		{partForm, "\x01\x02\x03\x04\x05"}, {partBits, "\x00\x01\x02\x03"}, {partResult, "\x00\x01\x02\x03\x04\x05"},
	} {
		at := placeOf(sampleParts(), x.which)
		for c := range 256 {
			octet := string([]byte{byte(c)})
			b := whole(with(x.which, octet)...)
			_, gotAt, e := Decode(b)
			if refused := e == api.ErrSymByte && gotAt == at; refused == strings.Contains(x.may, octet) {
				t.Errorf("part %d, byte %d: %d, %v", x.which, c, gotAt, e)
			}
		}
	}
}

func TestDecodeOfOpenRefAndResult(t *testing.T) { // P13.3
	for bits := range 4 {
		s := sample()
		s.Procs[1].Params[0].Open, s.Procs[1].Params[0].Ref = bits == 1 || bits == 3, bits == 2 || bits == 3
		reads(t, whole(with(partBits, string([]byte{byte(bits)}))...), s)
	}
	for form := api.NoType; form <= api.Set; form++ {
		s := sample()
		s.Procs[0].Result = form
		reads(t, whole(with(partResult, string([]byte{byte(form)}))...), s)
	}
}

func TestDecodeOfWhatIsReadButNotRight(t *testing.T) { // P13.3
	for _, x := range []struct {
		which int
		part  string
	}{
		{partName, text("")}, {partName, text("9")}, {partName, text("\xC3\xA4")}, {partName, text("a_b")},
		{partConst, text("")}, {partConst, text("b")}, {partConst, text("x")}, {partConst, text("P")}, {partConst, text("a.b")},
		{partVar, text("")}, {partVar, text("n")}, {partVar, text("y")}, {partVar, text("q9")}, {partVar, text("1")},
		{partProc, text("")}, {partProc, text("s")}, {partProc, text("Mod1")}, {partProc, text("q9")}, {partProc, text(" P")},
		{partBoolN, "\x02\x00\x00\x00"}, {partBoolN, "\x01\x00\x00\x01"}, {partBoolN, "\xFF\xFF\xFF\xFF"},
		{partCharN, "\x00\x01\x00\x00"}, {partCharN, "\xFF\xFF\xFF\xFF"},
		{partConstType, "\x02"}, {partConstType, "\x03"}, // of the number -2
		{partVarLen, number(4097)}, {partVarLen, number(16385)}, {partVarLen, number(1 << 30)}, {partVarLen, number(1 << 31)}, {partVarLen, number(1<<32 - 1)},
		{partLastLen, number(4097)}, {partLastLen - 3, number(16385)},
	} {
		refuses(t, whole(with(x.which, x.part)...), 0, api.ErrSymForm)
	}
	refuses(t, whole("\x00\x00\x00\x00"), 0, api.ErrSymForm) // nothing of anything, not even a name
}

func TestDecodeOfTheSample(t *testing.T) { // P13.3: what is right behind a change, as which symbols
	for _, x := range []struct {
		which  int
		part   string
		change func(s *api.Sym)
	}{
		{partName, text("n"), func(s *api.Sym) { s.Name = "n" }},
		{partConstN, "\x00\x00\x00\x80", func(s *api.Sym) { s.Consts[0].N = -1 << 31 }},
		{partConstType, "\x05", func(s *api.Sym) { s.Consts[0].Type, s.Consts[0].N = api.Set, 0xFFFFFFFE }},
		{partBoolN, "\x00\x00\x00\x00", func(s *api.Sym) { s.Consts[1].N = 0 }},
		{partCharN, "\x80\x00\x00\x00", func(s *api.Sym) { s.Consts[2].N = 128 }},
		{partSetN, "\x00\x00\x00\x80", func(s *api.Sym) { s.Consts[3].N = 1 << 31 }},
		{partString, text(""), func(s *api.Sym) { s.Consts[4].S = "" }},
		{partVarLen, number(4096), func(s *api.Sym) { s.Vars[0].Len = 4096 }},
		{partVarForm, "\x04", func(s *api.Sym) { s.Vars[0].Form = api.Byte }},
		{partLastLen, "\x00", func(s *api.Sym) { s.Vars[2].Len = 0 }},
		{partForm, "\x03", func(s *api.Sym) { s.Procs[1].Params[0].Form = api.Char }},
	} {
		s := sample()
		x.change(&s)
		reads(t, whole(with(x.which, x.part)...), s)
	}
}

func TestDecodeOfEncode(t *testing.T) { // P13.5
	chance := rand.New(rand.NewSource(13))
	for range 3000 {
		s := chanceSym(chance)
		b := writes(t, s)
		reads(t, b, s)
		got, _, _ := Decode(b)
		if again := writes(t, got); !bytes.Equal(again, b) || keyOf(t, got) != keyOf(t, s) {
			t.Fatalf("%x, then %x", b, again)
		}
	}
}
