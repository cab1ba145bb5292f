package gen

import (
	"slices"
	"strings"
	"testing"

	"carrel/api"
	"carrel/check"
	"carrel/disk"
	linker "carrel/link"
	"carrel/mach"
	"carrel/obj"
	"carrel/sem"
	"carrel/sym"
)

// library is a module that others import.
const library = `MODULE L;
CONST k* = 7; kc* = "q"; ks* = {1, 3}; str* = "lib";
VAR hidden: INTEGER; n*: INTEGER; low: CHAR; a*: ARRAY 3 OF INTEGER; t*: ARRAY 4 OF CHAR; y*: BYTE;
PROCEDURE Own(x: INTEGER): INTEGER; RETURN x * 2 END Own;
PROCEDURE Set*(x: INTEGER); BEGIN n := x; hidden := Own(x) END Set;
PROCEDURE Twice*(): INTEGER; RETURN hidden END Twice;
PROCEDURE Sum*(a: ARRAY OF INTEGER): INTEGER; VAR i, s: INTEGER; BEGIN FOR i := 0 TO LEN(a) - 1 DO s := s + a[i] END RETURN s END Sum;
PROCEDURE Say*(s: ARRAY OF CHAR); VAR i: INTEGER; BEGIN WHILE (i < LEN(s)) & (s[i] # 0X) DO EMIT(s[i]); INC(i) END END Say;
PROCEDURE Up*(VAR x: INTEGER; VAR s: ARRAY OF CHAR); BEGIN INC(x); s := "up" END Up;
PROCEDURE Low*(x: INTEGER): BYTE; RETURN x END Low;
PROCEDURE Fill*(); BEGIN a[0] := 10; a[1] := 20; a[2] := 30; t := "tea"; y := 511 END Fill;
END L.`

// ahead is what tables' statements stand behind. R has 28 bytes, RR 36, RRR 36, Z none.
const ahead = `MODULE M; IMPORT L;
CONST k = 5; str = "abc"; kc = 41X;
TYPE V = ARRAY 4 OF INTEGER; S = ARRAY 6 OF CHAR; W = ARRAY 2 OF V; Y = ARRAY 3 OF BYTE;
	P = POINTER TO R; R = RECORD x: INTEGER; c: CHAR; v: V; next: P END;
	Q = POINTER TO RR; RR = RECORD (R) z: SET; y: BYTE; b: BOOLEAN END;
	T = POINTER TO RRR; RRR = RECORD (RR) END;
	O = POINTER TO OO; OO = RECORD (R) END;
	Z = RECORD END; ZP = POINTER TO Z;
VAR i, j: INTEGER; b, d: BOOLEAN; c: CHAR; y: BYTE; e, f: SET; v, u: V; s: S; w: W; yy: Y; z: Z; zp: ZP; zz: ARRAY 3 OF Z;
	p, pp: P; q: Q; t: T; o: O; r, r2: R; rr: RR;
PROCEDURE N; END N;
PROCEDURE F(a: INTEGER): INTEGER; RETURN a END F;
PROCEDURE E(x: CHAR): BOOLEAN; BEGIN EMIT(x) RETURN x = "t" END E;
PROCEDURE I(n: INTEGER; x: CHAR): INTEGER; BEGIN EMIT(x) RETURN n END I;
PROCEDURE G(x: P): P; RETURN x END G;
`

// checked is the module of a source, beside others, with the keys of what it imports.
func checked(t testing.TB, s string, others ...api.Mod) api.Mod {
	t.Helper()
	var syms []api.Sym
	for _, m := range others {
		syms = append(syms, shownBy(t, m))
	}
	m, at, e := check.Source(s, syms)
	if e != api.OK {
		t.Fatalf("%v at %s of %s", e, s[at:min(len(s), at+30)], brief(s))
	}
	return keyed(t, m)
}

func shownBy(t testing.TB, m api.Mod) api.Sym {
	t.Helper()
	x, e := sym.Of(m)
	if e != api.OK {
		t.Fatalf("%s: %v", m.Name, e)
	}
	return x
}

// keyed gives a module's imports their keys.
func keyed(t testing.TB, m api.Mod) api.Mod {
	t.Helper()
	for i := range m.Imports {
		key, e := sym.Key(m.Syms[i])
		if e != api.OK {
			t.Fatalf("%s: %v", m.Imports[i].Name, e)
		}
		m.Imports[i].Key = key
	}
	return m
}

func brief(s string) string {
	s = strings.TrimPrefix(s, ahead)
	if len(s) > 400 {
		return s[:200] + ".." + s[len(s)-200:]
	}
	return s
}

// behindProcs are the library, and a module of procedures and statements behind ahead.
func behindProcs(t testing.TB, procs, statements string) []api.Mod {
	t.Helper()
	l := checked(t, library)
	return []api.Mod{l, checked(t, ahead+procs+" BEGIN "+statements+" END M.", l)}
}

func behind(t testing.TB, statements string) []api.Mod {
	t.Helper()
	return behindProcs(t, "", statements)
}

// alone is a module of what stands behind MODULE M;.
func alone(t testing.TB, s string) []api.Mod {
	t.Helper()
	return []api.Mod{checked(t, "MODULE M; "+s+" END M.")}
}

// object is a module's, which must be right.
func object(t testing.TB, m api.Mod) api.Object {
	t.Helper()
	o, e := Module(m)
	if e != api.OK || !obj.Right(o) {
		t.Fatalf("%s: %v, right: %v", m.Name, e, obj.Right(o))
	}
	return o
}

func objects(t testing.TB, mods []api.Mod) []api.Object {
	t.Helper()
	var l []api.Object
	for _, m := range mods {
		o := object(t, m)
		hasWhatIsPromised(t, m, o)
		l = append(l, o)
	}
	return l
}

// layout is where things stand in an image.
type layout struct {
	code, vars, strings, descs [][]uint32 // addresses, of each object; code: of its first word, and of the one behind its last
	heap, end                  uint32     // the heap's
}

const firstCode = 32

// laid lays objects out, one behind the other, as chapter 16 says of Boot, but that any words may stand at the start.
func laid(t testing.TB, l []api.Object, start func(layout) []uint32) (api.Image, layout) {
	t.Helper()
	var x layout
	at := uint32(firstCode + 4*len(start(planned(l))))
	x.place(l, at)
	image := make([]uint32, x.heap/4)
	image[2], image[3] = x.heap, x.end
	copy(image[firstCode/4:], start(x))
	for n, o := range l {
		fixed := append([]uint32(nil), o.Code...)
		for _, f := range o.Fixes {
			fixAt(t, l, x, n, f, fixed)
		}
		copy(image[x.code[n][0]/4:], fixed)
		for i, s := range o.Strings {
			for k := range len(s) {
				image[x.strings[n][i]/4+uint32(k/4)] |= uint32(s[k]) << (8 * (k % 4))
			}
		}
		for i, d := range o.Descs {
			place := x.descs[n][i] / 4
			image[place] = uint32(d.Size)
			for k, tag := range d.Tags {
				image[place+1+uint32(k)] = x.desc(t, l, n, tag)
			}
		}
	}
	return api.Image{Words: image, Entry: firstCode}, x
}

// planned is a layout that tells only how many things there are.
func planned(l []api.Object) layout {
	var x layout
	x.place(l, firstCode)
	return x
}

func (x *layout) place(l []api.Object, at uint32) {
	room := func(n int) uint32 {
		begin := at
		at += uint32(n+3) / 4 * 4
		return begin
	}
	for _, o := range l {
		code := room(4 * len(o.Code))
		x.code = append(x.code, []uint32{code, at})
		var vars, strings, descs []uint32
		for _, n := range o.Vars {
			vars = append(vars, room(n))
		}
		for _, s := range o.Strings {
			strings = append(strings, room(len(s)+1))
		}
		for range o.Descs {
			descs = append(descs, room(20))
		}
		x.vars, x.strings, x.descs = append(x.vars, vars), append(x.strings, strings), append(x.descs, descs)
	}
	x.heap, x.end = at, at+api.MaxHeap
}

func (x layout) desc(t testing.TB, l []api.Object, n, of int) uint32 {
	for i, d := range l[n].Descs {
		if d.Type == of {
			return x.descs[n][i]
		}
	}
	t.Fatalf("%s: no descriptor of %d", l[n].Name, of)
	return 0
}

// fixAt fills in what a fix of object n names.
func fixAt(t testing.TB, l []api.Object, x layout, n int, f api.Fix, code []uint32) {
	t.Helper()
	of, which := n, f.N
	if f.M >= 0 {
		of = -1
		for i, o := range l {
			if o.Name == l[n].Imports[f.M].Name && o.Key == l[n].Imports[f.M].Key {
				of = i
			}
		}
		if of < 0 || of >= n {
			t.Fatalf("%s: import %d is not there", l[n].Name, f.M)
		}
		which = shownPlace(t, l[of], f)
	}
	address := map[int]func() uint32{
		api.FixProc:  func() uint32 { return x.code[of][0] + 4*uint32(l[of].Procs[which]) },
		api.FixEntry: func() uint32 { return x.code[of][0] + 4*uint32(l[of].Procs[which]) },
		api.FixVar:   func() uint32 { return x.vars[of][which] },
		api.FixStr:   func() uint32 { return x.strings[of][which] },
		api.FixDesc:  func() uint32 { return x.desc(t, l, of, which) },
	}[f.Kind]()
	w := code[f.At]
	if f.Kind == api.FixProc {
		if w>>30 != 3 || w>>29&1 != 1 {
			t.Fatalf("%08X is no branch with U", w)
		}
		words := (address - x.code[n][0] - 4*uint32(f.At) - 4) / 4
		code[f.At] = w&0xFF000000 | words&0xFFFFFF
		return
	}
	next := code[f.At+1]
	if w&0xF0FF0000 != 0x60000000 || next&0xF00F0000 != 0x40060000 || next>>24&15 != w>>24&15 || next>>20&15 != w>>24&15 {
		t.Fatalf("%08X %08X are no MOV and IOR", w, next)
	}
	code[f.At], code[f.At+1] = w&0xFFFF0000|address>>16, next&0xFFFF0000|address&0xFFFF
}

// shownPlace is the place of the N-th thing that an object shows.
func shownPlace(t testing.TB, o api.Object, f api.Fix) int {
	t.Helper()
	if f.Kind == api.FixVar {
		return o.Shown[f.N]
	}
	n := f.N
	for i, x := range o.Exports {
		if x {
			n--
		}
		if n < 0 {
			return i
		}
	}
	t.Fatalf("%s shows no procedure %d", o.Name, f.N)
	return 0
}

// branchWord is one with link, from one address to another.
func branchWord(from, to uint32) uint32 { return 0xF7000000 | (to-from-4)/4&0xFFFFFF }

const (
	stackHigh = 0x6E00000F // R14 gets StackTop
	stackLow  = 0x4EE6F000
	haltWord  = 0x400F0000
)

// bootStart is Boot's.
func bootStart(l []api.Object) func(layout) []uint32 {
	return func(x layout) []uint32 {
		words := []uint32{stackHigh, stackLow}
		for n, o := range l {
			words = append(words, branchWord(firstCode+4*uint32(len(words)), x.code[n][0]+4*uint32(o.Init)))
		}
		return append(words, haltWord)
	}
}

// machine is one with objects as Boot lays them out, and an input. Its heap and its stack are full of remains, as memory may be that was used ahead.
func machine(t testing.TB, l []api.Object, input string) (*mach.Machine, layout) {
	t.Helper()
	image, x := laid(t, l, bootStart(l))
	if booted, name, e := linker.Boot(l); e != api.OK || booted.Entry != image.Entry || !slices.Equal(booted.Words, image.Words) {
		t.Fatalf("link.Boot: %q, %v, or another image", name, e)
	}
	return started(t, image, x, input), x
}

func started(t testing.TB, image api.Image, x layout, input string) *mach.Machine {
	t.Helper()
	d, e := disk.New(api.MinSectors)
	if e != api.OK {
		t.Fatal(e)
	}
	m, e := mach.New(image, d)
	if e != api.OK {
		t.Fatal(e)
	}
	const remains = 0xDEADBEEF
	for at := x.heap; at < x.end; at += 4 {
		m.Poke(at, remains)
	}
	for at := uint32(api.StackEnd); at < api.StackTop; at += 4 {
		m.Poke(at, remains)
	}
	if e := m.Feed(input); e != api.OK {
		t.Fatal(e)
	}
	return m
}

// runs has a machine do so many steps, however many runs that takes.
func runs(m *mach.Machine, most int64) api.End {
	end := api.End{Kind: api.EndBudget}
	for end.Kind == api.EndBudget && most > 0 {
		end = m.Run(min(most, api.MaxBudget))
		most -= end.Steps
	}
	return end
}

// answer is what was put out, and how it ended.
type answer struct {
	out  string
	end  api.End
	used int64 // of sem's fuel
}

func halt() api.End { return api.End{Kind: api.EndHalt} }

func wait() api.End { return api.End{Kind: api.EndWait} }

func budget() api.End { return api.End{Kind: api.EndBudget} }

func trapped(n int) api.End { return api.End{Kind: api.EndTrap, Trap: n} }

// agrees holds P15.3 of modules: what sem says of them.
func agrees(t testing.TB, what string, mods []api.Mod, input string, fuel int64) answer {
	t.Helper()
	out, end, left, e := sem.Run(mods, input, fuel)
	if e != api.OK {
		t.Fatalf("%s: sem: %v", brief(what), e)
	}
	want := answer{out: out, end: end, used: fuel - left}
	m, x := machine(t, objects(t, mods), input)
	most := 2000*want.used + 10000
	if end.Kind == api.EndBudget {
		most = min(most, 20*want.used+10000)
	}
	got := runs(m, most)
	switch {
	case end.Kind == api.EndBudget:
		if !strings.HasPrefix(out, m.Out()) && !strings.HasPrefix(m.Out(), out) {
			t.Errorf("%s\nwith %q: %q, but sem %q, then no fuel", brief(what), input, brief(m.Out()), brief(out))
		}
	case got.Kind != end.Kind || got.Trap != end.Trap || m.Out() != out:
		t.Errorf("%s\nwith %q: %q, %v; sem: %q, %v", brief(what), input, brief(m.Out()), got, brief(out), end)
	}
	leaves(t, what, m, x, objects(t, mods), got.Kind)
	return want
}

// leaves asks what a run must leave as it was: all memory but what code is told to write, and at a run's end R13, R14, and that no call is under way.
func leaves(t testing.TB, what string, m *mach.Machine, x layout, l []api.Object, kind int) {
	t.Helper()
	if kind == api.EndHalt && m.Cpu().PC < x.code[0][0] { // else HALT itself stood in some call
		depth, _ := m.Word(api.CallDepth)
		if m.Cpu().R[13] != 0 || m.Cpu().R[14] != api.StackTop || depth != 0 {
			t.Errorf("%s: R13 %X, R14 %X, %d calls under way", brief(what), m.Cpu().R[13], m.Cpu().R[14], depth)
		}
	}
	if m.Cpu().R[14] < api.StackEnd || m.Cpu().R[14] > api.StackTop {
		t.Errorf("%s: R14 %X", brief(what), m.Cpu().R[14])
	}
	image, _ := laid(t, l, bootStart(l))
	image.Words = append(image.Words, make([]uint32, api.MemBytes/4-len(image.Words))...)
	may := map[uint32]struct{}{api.HeapNext: {}, api.CallDepth: {}}
	for n, o := range l {
		for i, bytes := range o.Vars {
			for at := uint32(0); at < uint32(bytes); at += 4 {
				may[x.vars[n][i]+at] = struct{}{}
			}
		}
	}
	for at := uint32(0); at < api.MemBytes; at += 4 {
		if at >= x.heap && at < x.end || at >= api.StackEnd && at < api.StackTop {
			continue
		}
		if w, _ := m.Word(at); w != image.Words[at/4] {
			if _, ok := may[at]; !ok {
				t.Errorf("%s: at %X stands %X, which was %X", brief(what), at, w, image.Words[at/4])
				return
			}
		}
	}
}

const much = 100000

// does asks of statements what is put out, and how it ends, of sem and of the machine.
func does(t *testing.T, what string, mods []api.Mod, input, out string, end api.End) {
	t.Helper()
	got := agrees(t, what, mods, input, much)
	if got.out != out || got.end != end {
		t.Errorf("%s: %q, %v; want %q, %v", brief(what), brief(got.out), got.end, brief(out), end)
	}
}

// halts asks of statements that their ASSERTs hold.
func halts(t *testing.T, statements, out string) {
	t.Helper()
	does(t, statements, behind(t, statements), "", out, halt())
}

func haltsWith(t *testing.T, procs, statements, out string) {
	t.Helper()
	does(t, procs+" "+statements, behindProcs(t, procs, statements), "", out, halt())
}
