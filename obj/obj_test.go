package obj

import (
	"bytes"
	"math"
	"math/rand"
	"reflect"
	"slices"
	"strconv"
	"strings"
	"testing"

	"carrel/api"
	"carrel/word"
)

// sample is a right object with something of everything.
func sample() api.Object {
	return api.Object{
		Name:    "Mod1",
		Key:     0x89ABCDEF,
		Imports: []api.Import{{Name: "In", Key: 1}, {Name: "a2345678901234567890", Key: 0xFFFFFFFF}},
		Code:    []uint32{0xF7000000, 0x61000000, 0x41160000, 0, 0xFFFFFFFF, 0x400F0000, 7, 8},
		Procs:   []int{0, 7, 3},
		Names:   []string{"P", "Mod1", "q9"},
		Exports: []bool{true, false, true},
		Init:    5,
		Vars:    []int{1, 4, 128, 16384},
		Shown:   []int{0, 3},
		Strings: []string{"", "a\x00\xFFb", strings.Repeat("s", 200)},
		Descs: []api.Desc{
			{Type: 8, Size: 0, Tags: []int{8}},
			{Type: 10, Size: 4, Tags: []int{8, 10}},
			{Type: 199, Size: 16384, Tags: []int{8, 10, 10, 199}},
		},
		Fixes: []api.Fix{
			{At: 0, Kind: api.FixProc, M: 1, N: 99},
			{At: 1, Kind: api.FixVar, M: -1, N: 3},
			{At: 2, Kind: api.FixDesc, M: -1, N: 199},
			{At: 3, Kind: api.FixEntry, M: 0, N: 0},
			{At: 5, Kind: api.FixStr, M: -1, N: 2},
			{At: 6, Kind: api.FixVar, M: 0, N: 199},
			{At: 7, Kind: api.FixProc, M: -1, N: 2},
		},
	}
}

// sampleParts are the sample's bytes between `CRO1` and the sum, as the chapter names them, each thing by itself.
func sampleParts() []string {
	long := strings.Repeat("s", 200)
	return []string{
		"\x04Mod1", "\xEF\xCD\xAB\x89",
		"\x02", "\x02In", "\x01\x00\x00\x00", "\x14a2345678901234567890", "\xFF\xFF\xFF\xFF",
		"\x08", "\x00\x00\x00\xF7", "\x00\x00\x00\x61", "\x00\x00\x16\x41", "\x00\x00\x00\x00", "\xFF\xFF\xFF\xFF", "\x00\x00\x0F\x40", "\x07\x00\x00\x00", "\x08\x00\x00\x00",
		"\x03", "\x00", "\x01P", "\x01", "\x07", "\x04Mod1", "\x00", "\x03", "\x02q9", "\x01",
		"\x05",
		"\x04", "\x01", "\x04", "\x80\x01", "\x80\x80\x01",
		"\x02", "\x00", "\x03",
		"\x03", "\x00", "\x04a\x00\xFFb", "\xC8\x01" + long,
		"\x03",
		"\x08", "\x00", "\x01", "\x08",
		"\x0A", "\x04", "\x02", "\x08", "\x0A",
		"\xC7\x01", "\x80\x80\x01", "\x04", "\x08", "\x0A", "\x0A", "\xC7\x01",
		"\x07",
		"\x00", "\x01", "\x02", "\x63",
		"\x01", "\x02", "\x00", "\x03",
		"\x02", "\x04", "\x00", "\xC7\x01",
		"\x03", "\x05", "\x01", "\x00",
		"\x05", "\x03", "\x00", "\x02",
		"\x06", "\x02", "\x01", "\xC7\x01",
		"\x07", "\x01", "\x00", "\x02",
	}
}

// summed are bytes with their sum behind them.
func summed(s string) []byte {
	b := append([]byte(s), 0, 0, 0, 0)
	word.Put(b, len(s), word.Sum([]byte(s)))
	return b
}

// whole are an object's bytes of what stands between `CRO1` and the sum.
func whole(parts ...string) []byte { return summed("CRO1" + strings.Join(parts, "")) }

// placeOf is that of a part of an object's bytes.
func placeOf(parts []string, which int) int { return 4 + len(strings.Join(parts[:which], "")) }

// plainly is an object whose empty lists are nil: nil and empty ones are one.
func plainly(o api.Object) api.Object {
	o.Imports, o.Code = emptyIsNil(o.Imports), emptyIsNil(o.Code)
	o.Procs, o.Names, o.Exports = emptyIsNil(o.Procs), emptyIsNil(o.Names), emptyIsNil(o.Exports)
	o.Vars, o.Shown, o.Strings = emptyIsNil(o.Vars), emptyIsNil(o.Shown), emptyIsNil(o.Strings)
	o.Descs, o.Fixes = slices.Clone(emptyIsNil(o.Descs)), emptyIsNil(o.Fixes)
	for i, d := range o.Descs {
		o.Descs[i].Tags = emptyIsNil(d.Tags)
	}
	return o
}

func emptyIsNil[T any](list []T) []T {
	if len(list) == 0 {
		return nil
	}
	return list
}

func same(a, b api.Object) bool { return reflect.DeepEqual(plainly(a), plainly(b)) }

// reads asks for the object that bytes are read as.
func reads(t *testing.T, b []byte, want api.Object) {
	t.Helper()
	if o, at, e := Decode(b); !same(o, want) || at != 0 || e != api.OK {
		t.Errorf("Decode(%x) = %v, %d, %v; want %v", b, o, at, e, want)
	}
}

// refuses asks for the place and the error with which bytes are refused.
func refuses(t *testing.T, b []byte, at int, e api.Errno) {
	t.Helper()
	if o, gotAt, gotE := Decode(b); !same(o, api.Object{}) || gotAt != at || gotE != e {
		t.Errorf("Decode(%.99x) = %v, %d, %v; want %d, %v", b, o, gotAt, gotE, at, e)
	}
}

// writes asks for the bytes of a right object.
func writes(t *testing.T, o api.Object) []byte {
	t.Helper()
	b, e := Encode(o)
	if e != api.OK || !Right(o) {
		t.Fatalf("Encode: %v, Right: %v, of %v", e, Right(o), o)
	}
	return b
}

func TestEncodeOfTheChaptersExample(t *testing.T) { // P7.2, P7.3
	o := api.Object{Name: "A", Code: []uint32{0x40000000}}
	ahead := "CRO1\x01A\x00\x00\x00\x00\x00\x01\x00\x00\x00\x40\x00\x00\x00\x00\x00\x00\x00"
	b := writes(t, o)
	if !bytes.Equal(b, summed(ahead)) {
		t.Errorf("%x", b)
	}
	reads(t, b, o)
	another := bytes.Clone(b)
	another[len(b)-1] ^= 1
	refuses(t, another, len(b)-4, api.ErrObjSum)
	refuses(t, summed("CRO2"+ahead[4:]), 0, api.ErrObjByte)
}

func TestEncodeOfEverything(t *testing.T) { // P7.2
	if got, want := writes(t, sample()), whole(sampleParts()...); !bytes.Equal(got, want) {
		t.Errorf("got %x\nwant %x", got, want)
	}
}

func TestEncodeTakesNilAndEmptyListsAlike(t *testing.T) { // R3
	bare := api.Object{Name: "A", Code: []uint32{1}}
	empty := api.Object{
		Name: "A", Imports: []api.Import{}, Code: []uint32{1}, Procs: []int{}, Names: []string{}, Exports: []bool{},
		Vars: []int{}, Shown: []int{}, Strings: []string{}, Descs: []api.Desc{}, Fixes: []api.Fix{},
	}
	mixed := bare
	mixed.Names, mixed.Descs = []string{}, []api.Desc{}
	want := writes(t, bare)
	for _, o := range []api.Object{empty, mixed} {
		if got := writes(t, o); !bytes.Equal(got, want) {
			t.Errorf("%x", got)
		}
	}
}

func TestDecodeOfEverything(t *testing.T) { // P7.3
	reads(t, whole(sampleParts()...), sample())
}

// greatest is the right object with the most bytes.
func greatest() api.Object {
	name := func(n int) string { return "N" + strings.Repeat("x", 16) + strconv.Itoa(100+n) }
	o := api.Object{Name: name(0), Key: 0xFFFFFFFF, Code: make([]uint32, api.MaxCode), Init: api.MaxCode - 1}
	for i := range api.MaxImports {
		o.Imports = append(o.Imports, api.Import{Name: name(i + 1), Key: 0xFFFFFFFF})
	}
	for i := range api.MaxProcs {
		o.Procs, o.Names, o.Exports = append(o.Procs, api.MaxCode-1), append(o.Names, name(i)), append(o.Exports, true)
	}
	for i := range api.MaxVars {
		o.Vars, o.Shown = append(o.Vars, api.MaxSize), append(o.Shown, i)
		o.Strings = append(o.Strings, strings.Repeat("\xFF", api.MaxStr))
	}
	for i := 8; i < api.MaxTypes; i++ {
		o.Descs = append(o.Descs, api.Desc{Type: i, Size: api.MaxSize, Tags: []int{199, 199, 199, i}})
	}
	for i := range api.MaxFixes {
		o.Code[i] = 0xFFFFFFFF
		o.Fixes = append(o.Fixes, api.Fix{At: i, Kind: api.FixVar, M: api.MaxImports - 1, N: api.MaxVars - 1})
	}
	o.Fixes[api.MaxFixes-1] = api.Fix{At: api.MaxCode - 1, Kind: api.FixProc, M: api.MaxImports - 1, N: api.MaxProcs - 1}
	return o
}

func TestTheGreatestObject(t *testing.T) { // P7.2, P7.3, P7.5
	o := greatest()
	b := writes(t, o)
	if len(b) > api.MaxObject {
		t.Fatalf("%d bytes", len(b))
	}
	got, at, e := Decode(b)
	if !same(got, o) || at != 0 || e != api.OK {
		t.Errorf("Decode: %d, %v, the same: %v", at, e, same(got, o))
	}
}

func TestDecodeOfNoBeginning(t *testing.T) { // P7.3
	for _, b := range [][]byte{
		nil, {}, []byte("C"), []byte("CRO1"), []byte("CRO1\x00\x00\x00"), []byte("CRO2...."), []byte("cro1...."),
		summed("CRO"), summed("XRO1"), summed("CXO1"), summed("CRX1"), summed("CRO0"), summed(" CRO1"),
		whole(sampleParts()...)[1:],
	} {
		refuses(t, b, 0, api.ErrObjByte)
	}
	refuses(t, []byte("CRO1...."), 4, api.ErrObjSum)
	refuses(t, summed("CRO1"), 4, api.ErrObjByte) // eight bytes, right up to where the name should be
}

func TestDecodeOfTooManyBytes(t *testing.T) { // P7.3
	noughts := strings.Repeat("\x00", api.MaxObject)
	refuses(t, summed("CRO1"+noughts[:api.MaxObject-8]), 18, api.ErrObjByte) // read up to where Fixes end
	refuses(t, summed("CRO1"+noughts[:api.MaxObject-7]), 0, api.ErrObjByte)
	refuses(t, []byte("CRO1"+noughts), 0, api.ErrObjByte) // though its sum is another one, too
}

func TestDecodeOfAnotherSum(t *testing.T) { // P7.3
	b := whole(sampleParts()...)
	for i := len(b) - 4; i < len(b); i++ {
		another := bytes.Clone(b)
		another[i]++
		refuses(t, another, len(b)-4, api.ErrObjSum)
	}
	refuses(t, b[:len(b)-1], len(b)-5, api.ErrObjSum)
	refuses(t, append(bytes.Clone(b), 0), len(b)-3, api.ErrObjSum)
	refuses(t, append([]byte("CRO1\x15"), make([]byte, 40)...), 41, api.ErrObjSum) // ahead of a name that is too long
}

func TestDecodeOfBytesThatEnd(t *testing.T) { // P7.3
	parts := sampleParts()
	for which, part := range parts {
		at := placeOf(parts, which)
		for n := range len(part) {
			refuses(t, whole(strings.Join(parts[:which], ""), part[:n]), at, api.ErrObjByte)
		}
	}
}

func TestDecodeOfBytesBehindFixes(t *testing.T) { // P7.3
	parts := sampleParts()
	for _, more := range []string{"\x00", "\x80", "\x00\x00\x00\x00", "CRO1"} {
		refuses(t, whole(append(parts, more)...), placeOf(parts, len(parts)), api.ErrObjByte)
	}
	spoilt := append(slices.Clone(parts), "\x00")
	spoilt[0] = "\x040od1" // no NAME, but that is asked for behind the bytes
	refuses(t, whole(spoilt...), placeOf(parts, len(parts)), api.ErrObjByte)
}

// The places of some of the sample's parts.
const (
	partName     = 0
	partImports  = 2
	partImport   = 3
	partWords    = 7
	partProcs    = 16
	partProcAt   = 17
	partProcName = 18
	partProcOut  = 19
	partInit     = 26
	partVars     = 27
	partVar      = 28
	partShown    = 32
	partShow     = 33
	partStrings  = 35
	partString   = 36
	partDescs    = 39
	partDescType = 40
	partDescSize = 41
	partTags     = 42
	partTag      = 43
	partFixes    = 56
	partFixAt    = 57
	partFixKind  = 58
	partFixM     = 59
	partFixN     = 60
)

// number is a number's bytes, worked out by division.
func number(n uint64) string {
	if n < 128 {
		return string([]byte{byte(n)})
	}
	return string([]byte{byte(128 + n%128)}) + number(n/128)
}

func text(s string) string { return number(uint64(len(s))) + s }

// with is the sample's parts with another one in the place of one of them.
func with(which int, part string) []string {
	parts := sampleParts()
	parts[which] = part
	return parts
}

func TestDecodeOfWhatIsNone(t *testing.T) { // P7.3
	numbers := []int{
		partImports, partWords, partProcs, partProcAt, partInit, partVars, partVar, partShown, partShow, partStrings,
		partDescs, partDescType, partDescSize, partTags, partTag, partFixes, partFixAt, partFixM, partFixN,
	}
	texts := []int{partName, partImport, partProcName, partString}
	for _, which := range append(numbers, texts...) { // a text begins with a number
		for _, none := range []string{"\x80\x00", "\x81\x80\x00", number(1 << 32), "\x80\x80\x80\x80\x80\x01", "\xFF\xFF\xFF\xFF\xFF"} {
			refuses(t, whole(with(which, none)...), placeOf(sampleParts(), which), api.ErrObjByte)
		}
	}
}

func TestDecodeOfTooManyThings(t *testing.T) { // P7.3
	for _, x := range []struct {
		which int
		most  uint64
	}{
		{partImports, 16}, {partWords, 65536}, {partProcs, 100}, {partVars, 200}, {partShown, 200},
		{partStrings, 200}, {partDescs, 200}, {partTags, 4}, {partFixes, 65536}, {partFixM, 16},
	} {
		parts := sampleParts()[:x.which]
		at := placeOf(parts, x.which)
		refuses(t, whole(append(parts, number(x.most+1))...), at, api.ErrObjByte)
		refuses(t, whole(append(parts, number(1<<32-1))...), at, api.ErrObjByte)
		most := number(x.most) // as many may be: the bytes end where the first one should stand
		refuses(t, whole(append(parts, most)...), at+len(most), api.ErrObjByte)
	}
}

func TestDecodeOfTooLongTexts(t *testing.T) { // P7.3
	for _, x := range []struct{ which, most int }{{partName, 20}, {partImport, 20}, {partProcName, 20}, {partString, 200}} {
		at := placeOf(sampleParts(), x.which)
		most := with(x.which, text(strings.Repeat("y", x.most)))
		if _, _, e := Decode(whole(most...)); e != api.OK {
			t.Errorf("a text of %d bytes: %v", x.most, e)
		}
		refuses(t, whole(with(x.which, text(strings.Repeat("y", x.most+1)))...), at, api.ErrObjByte)
		refuses(t, whole(with(x.which, number(1<<32-1))...), at, api.ErrObjByte)
	}
}

func TestDecodeOfWhetherItIsExported(t *testing.T) { // P7.3
	for c := range 256 {
		b := whole(with(partProcOut, string([]byte{byte(c)}))...)
		if c < 2 {
			o := sample()
			o.Exports[0] = c == 1
			reads(t, b, o)
			continue
		}
		refuses(t, b, placeOf(sampleParts(), partProcOut), api.ErrObjByte)
	}
}

func TestDecodeOfWhatIsReadButNotRight(t *testing.T) { // P7.3
	for _, x := range []struct {
		which int
		part  string
	}{
		{partName, text("")}, {partName, text("9")}, {partName, text("In")}, {partName, text("\xC3\xA4")},
		{partImport, text("Mod1")}, {partImport, text("a_b")},
		{partProcAt, number(8)}, {partProcAt, number(1<<32 - 1)}, {partProcName, text("q9")}, {partProcName, text("")},
		{partInit, number(8)}, {partInit, number(1<<32 - 1)},
		{partVar, number(0)}, {partVar, number(16385)}, {partVar, number(1<<32 - 1)},
		{partShow, number(3)}, {partShow, number(4)}, {partShow, number(1<<32 - 1)},
		{partDescType, number(7)}, {partDescType, number(9)}, {partDescType, number(10)}, {partDescType, number(1<<32 - 1)},
		{partDescSize, number(2)}, {partDescSize, number(16388)}, {partDescSize, number(1<<32 - 4)},
		{partTag, number(10)}, {partTag, number(0)}, {partTag, number(1<<32 - 1)},
		{partFixAt, number(1)}, {partFixAt, number(8)}, {partFixAt, number(1<<32 - 1)},
		{partFixKind, "\x00"}, {partFixKind, "\x03"}, {partFixKind, "\x06"}, {partFixKind, "\xFF"},
		{partFixM, number(3)}, {partFixM, number(16)}, {partFixN, number(100)}, {partFixN, number(1<<32 - 1)},
	} {
		refuses(t, whole(with(x.which, x.part)...), 0, api.ErrObjForm)
	}
	refuses(t, whole(strings.Repeat("\x00", 14)), 0, api.ErrObjForm) // nothing of anything, not even of code
}

func TestDecodeOfMoreShownThanVars(t *testing.T) { // P7.3
	head := "\x01A\x00\x00\x00\x00\x00\x01\x00\x00\x00\x40\x00\x00\x00"
	refuses(t, whole(head, number(200), strings.Repeat("\x00", 200), "\x00\x00\x00"), 0, api.ErrObjForm)
	refuses(t, whole(head, number(201), strings.Repeat("\x00", 201), "\x00\x00\x00"), 4+len(head), api.ErrObjByte)
}

func TestDecodeOfMoreDescsThanTypesHaveRoom(t *testing.T) { // P7.3
	head := "\x01A\x00\x00\x00\x00\x00\x01\x00\x00\x00\x40\x00\x00\x00\x00\x00"
	row := ""
	for i := range 201 {
		row += number(uint64(i)) + "\x00\x01" + number(uint64(i))
		b := whole(head, number(uint64(i+1)), row, "\x00")
		if i < 200 {
			refuses(t, b, 0, api.ErrObjForm)
		} else {
			refuses(t, b, 4+len(head), api.ErrObjByte)
		}
	}
}

func TestEncodeOfWhatIsNotRight(t *testing.T) { // P7.2
	for _, x := range rightCases() {
		o := sample()
		x.change(&o)
		b, e := Encode(o)
		if want := !x.right; (e == api.ErrObjForm) != want || (len(b) == 0) != want || x.right && e != api.OK {
			t.Errorf("%s: %d bytes, %v", x.what, len(b), e)
		}
	}
}

func TestDecodeOfEncode(t *testing.T) { // P7.5
	chance := rand.New(rand.NewSource(7))
	for range 3000 {
		o := chanceObject(chance)
		b := writes(t, o)
		reads(t, b, o)
		got, _, _ := Decode(b)
		if again := writes(t, got); !bytes.Equal(again, b) {
			t.Fatalf("%x, then %x", b, again)
		}
	}
}

func TestOneByteThatIsTurned(t *testing.T) { // P7.5
	for _, b := range [][]byte{whole(sampleParts()...), writes(t, api.Object{Name: "A", Code: []uint32{0x40000000}})} {
		for i := range b {
			for by := 1; by < 256; by++ {
				turned := bytes.Clone(b)
				turned[i] ^= byte(by)
				at, e := len(b)-4, api.ErrObjSum
				if i < 4 {
					at, e = 0, api.ErrObjByte
				}
				refuses(t, turned, at, e)
			}
		}
	}
}

func TestEncodeAnswersNewMemory(t *testing.T) { // P7.4
	o := sample()
	b := writes(t, o)
	if !same(o, sample()) {
		t.Errorf("written into: %v", o)
	}
	spoil(o)
	if want := whole(sampleParts()...); !bytes.Equal(b, want) {
		t.Errorf("shared: %x", b)
	}
}

// spoil writes into all memory that an object has.
func spoil(o api.Object) {
	o.Imports[0], o.Code[0], o.Procs[0], o.Names[0], o.Exports[0] = api.Import{}, 9, 9, "", false
	o.Vars[0], o.Shown[0], o.Strings[0], o.Descs[1].Tags[0], o.Descs[0], o.Fixes[0] = 9, 9, "9", 9, api.Desc{}, api.Fix{}
}

func TestDecodeAnswersNewMemory(t *testing.T) { // P7.4, R3
	b := whole(sampleParts()...)
	kept := bytes.Clone(b)
	first, _, _ := Decode(b)
	second, _, _ := Decode(b)
	if !bytes.Equal(b, kept) {
		t.Error("written into")
	}
	clear(b)
	if !same(first, sample()) {
		t.Errorf("shares with the bytes: %v", first)
	}
	spoil(first)
	if !same(second, sample()) {
		t.Errorf("two answers share: %v", second)
	}
	for i := range second.Descs { // the spare room of one list is not another one's
		_ = append(second.Descs[i].Tags, -1, -1, -1, -1)
	}
	_, _, _ = append(second.Procs, -1, -1), append(second.Vars, -1, -1), append(second.Shown, -1, -1)
	if !same(second, sample()) {
		t.Errorf("lists of an answer share: %v", second)
	}
}

func TestSpareRoomIsNotWrittenInto(t *testing.T) { // R3
	room := append(whole(sampleParts()...), 1, 2, 3, 4)
	kept := bytes.Clone(room)
	reads(t, room[:len(room)-4], sample())
	if !bytes.Equal(room, kept) {
		t.Error("Decode wrote into spare room")
	}
	o := sample()
	vars := append(o.Vars, 77)
	o.Vars = vars[:len(vars)-1]
	writes(t, o)
	if vars[len(vars)-1] != 77 {
		t.Error("Encode wrote into spare room")
	}
}

func TestRightOfListsBeyondAllMeasure(t *testing.T) { // R1
	many := 1 << 22
	for what, o := range map[string]api.Object{
		"Name":    {Name: strings.Repeat("a", many), Code: []uint32{1}},
		"Imports": {Name: "A", Imports: make([]api.Import, many), Code: []uint32{1}},
		"Code":    {Name: "A", Code: make([]uint32, many)},
		"Procs":   {Name: "A", Code: []uint32{1}, Procs: make([]int, many), Names: make([]string, many), Exports: make([]bool, many)},
		"Vars":    {Name: "A", Code: []uint32{1}, Vars: make([]int, many)},
		"Shown":   {Name: "A", Code: []uint32{1}, Shown: make([]int, many)},
		"Strings": {Name: "A", Code: []uint32{1}, Strings: make([]string, many)},
		"Descs":   {Name: "A", Code: []uint32{1}, Descs: make([]api.Desc, many)},
		"Tags":    {Name: "A", Code: []uint32{1}, Descs: []api.Desc{{Type: 8, Tags: make([]int, many)}}},
		"Fixes":   {Name: "A", Code: []uint32{1}, Fixes: make([]api.Fix, many)},
		"numbers": {Name: "A", Code: []uint32{1}, Init: math.MinInt, Fixes: []api.Fix{{At: math.MaxInt, Kind: math.MaxInt, M: math.MaxInt, N: math.MinInt}}},
	} {
		if Right(o) {
			t.Error(what)
		}
		if b, e := Encode(o); len(b) != 0 || e != api.ErrObjForm {
			t.Error(what, e)
		}
	}
}
