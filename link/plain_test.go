package link

import (
	"encoding/binary"
	"fmt"

	"carrel/api"
	"carrel/obj"
)

// plainFit is the section 'Words', said as it stands there: the order, or which of the five is told.
func plainFit(l []api.Object) ([]int, string, api.Errno) {
	if len(l) == 0 || len(l) > 16 {
		return nil, "", api.ErrArg
	}
	for _, o := range l {
		if !obj.Right(o) {
			return nil, o.Name, api.ErrLinkObject
		}
	}
	for i, o := range l {
		for _, ahead := range l[:i] {
			if ahead.Name == o.Name {
				return nil, o.Name, api.ErrLinkTwice
			}
		}
	}
	for _, o := range l {
		for _, i := range o.Imports {
			of := plainNamed(l, i.Name)
			if of < 0 {
				return nil, i.Name, api.ErrLinkNone
			}
			if l[of].Key != i.Key {
				return nil, i.Name, api.ErrLinkKey
			}
		}
	}
	var order []int
	placed := map[string]bool{}
	for {
		next := -1
		for i := len(l) - 1; i >= 0; i-- {
			ready := !placed[l[i].Name]
			for _, m := range l[i].Imports {
				ready = ready && placed[m.Name]
			}
			if ready {
				next = i
			}
		}
		if next < 0 {
			break
		}
		placed[l[next].Name] = true
		order = append(order, next)
	}
	for _, o := range l {
		if !placed[o.Name] {
			return nil, o.Name, api.ErrLinkCycle
		}
	}
	return order, "", api.OK
}

func plainNamed(l []api.Object, name string) int {
	for i, o := range l {
		if o.Name == name {
			return i
		}
	}
	return -1
}

// plainLabel is by what name an address is known that a fix names; nothing, if that is not there.
func plainLabel(l []api.Object, o api.Object, f api.Fix) string {
	n := f.N
	if f.M >= 0 {
		o = l[plainNamed(l, o.Imports[f.M].Name)]
		var shown []int
		for i := range o.Procs {
			if o.Exports[i] {
				shown = append(shown, i)
			}
		}
		if f.Kind == api.FixVar {
			shown = o.Shown
		}
		if n >= len(shown) {
			return ""
		}
		n = shown[n]
	}
	kind := map[int]string{api.FixProc: "proc", api.FixEntry: "proc", api.FixVar: "var", api.FixStr: "str", api.FixDesc: "desc"}[f.Kind]
	return fmt.Sprint(o.Name, kind, n)
}

// plainTakes: are the words such as a fix asks for? (Bits that must stand, under those that may be any.)
func plainTakes(code []uint32, f api.Fix) bool {
	w := code[f.At]
	if f.Kind == api.FixProc {
		return w&0xE0000000 == 0xE0000000
	}
	a := w >> 24 & 15
	return w&0xF0FF0000 == 0x60000000 && code[f.At+1]&0xFFFF0000 == 0x40060000|a<<24|a<<20
}

// plainMemory is bytes that stand from an address on, with labels.
type plainMemory struct {
	from   int
	bytes  []byte
	labels map[string]int
	calls  map[int]string // of words at these addresses, which are to go to a label
	half   map[int]string // of two words, which are to get its halves
}

func (m *plainMemory) at() int { return m.from + len(m.bytes) }

func (m *plainMemory) word(words ...uint32) {
	for _, w := range words {
		m.bytes = binary.LittleEndian.AppendUint32(m.bytes, w)
	}
}

func (m *plainMemory) label(parts ...any) {
	for m.at()%4 != 0 {
		m.bytes = append(m.bytes, 0)
	}
	m.labels[fmt.Sprint(parts...)] = m.at()
}

func (m *plainMemory) call(w uint32, label string) {
	m.calls[m.at()] = label
	m.word(w)
}

func (m *plainMemory) halves(upper, lower uint32, label string) {
	m.half[m.at()] = label
	m.word(upper, lower)
}

// object lays one out.
func (m *plainMemory) object(o api.Object) {
	m.label(o.Name, "code")
	for i, n := range o.Procs {
		m.labels[fmt.Sprint(o.Name, "proc", i)] = m.at() + 4*n
	}
	m.labels[fmt.Sprint(o.Name, "init")] = m.at() + 4*o.Init
	m.word(o.Code...)
	for i, n := range o.Vars {
		m.label(o.Name, "var", i)
		m.bytes = append(m.bytes, make([]byte, n)...)
	}
	for i, s := range o.Strings {
		m.label(o.Name, "str", i)
		m.bytes = append(append(m.bytes, s...), 0)
	}
	for _, d := range o.Descs {
		m.label(o.Name, "desc", d.Type)
		m.word(uint32(d.Size))
		for _, tag := range append(append([]int{}, d.Tags...), -1, -1, -1, -1)[:4] {
			if tag >= 0 {
				m.half[-m.at()] = fmt.Sprint(o.Name, "desc", tag)
			}
			m.word(0)
		}
	}
}

// fill gives all words their addresses.
func (m *plainMemory) fill() {
	change := func(at int, change func(w uint32) uint32) {
		b := m.bytes[at-m.from:]
		binary.LittleEndian.PutUint32(b, change(binary.LittleEndian.Uint32(b)))
	}
	for at, label := range m.calls {
		change(at, func(w uint32) uint32 { return w&0xFF000000 | uint32((m.labels[label]-at)/4-1)&0xFFFFFF })
	}
	for at, label := range m.half {
		to := uint32(m.labels[label])
		if at < 0 { // of a descriptor: the address itself
			change(-at, func(uint32) uint32 { return to })
			continue
		}
		change(at, func(w uint32) uint32 { return w&0xFFFF0000 | to>>16 })
		change(at+4, func(w uint32) uint32 { return w&0xFFFF0000 | to&0xFFFF })
	}
}

// plainLay lays objects out behind a start.
func plainLay(l []api.Object, from int, start func(m *plainMemory, order []int)) (*plainMemory, string, api.Errno) {
	order, name, e := plainFit(l)
	if e != api.OK {
		return nil, name, e
	}
	m := &plainMemory{from: from, labels: map[string]int{}, calls: map[int]string{}, half: map[int]string{}}
	start(m, order)
	for _, i := range order {
		m.object(l[i])
	}
	m.label("heap")
	m.labels["end"] = m.labels["heap"] + 65536
	for _, o := range l {
		for _, f := range o.Fixes {
			label := plainLabel(l, o, f)
			if label == "" || !plainTakes(o.Code, f) {
				return nil, o.Name, api.ErrLinkFix
			}
			at := m.labels[fmt.Sprint(o.Name, "code")] + 4*f.At
			if f.Kind == api.FixProc {
				m.calls[at] = label
			} else {
				m.half[at] = label
			}
		}
	}
	return m, "", api.OK
}

func plainBoot(l []api.Object) (api.Image, string, api.Errno) {
	m, name, e := plainLay(l, 0, func(m *plainMemory, order []int) {
		m.word(0, 0, 0, 0, 0, 0, 0, 0, 0x6E00000F, 0x4EE6F000)
		for _, i := range order {
			m.call(0xF7000000, l[i].Name+"init")
		}
		m.word(0x400F0000)
		last := l[order[len(order)-1]]
		for i, n := range last.Names {
			if n == "Trap" && last.Exports[i] {
				m.label("trap")
				m.word(0x6E00000F, 0x4EE6F000, 0x40000000, 0xA000001C)
				m.call(0xE7000000, fmt.Sprint(last.Name, "proc", i))
			}
		}
	})
	if e != api.OK {
		return api.Image{}, name, e
	}
	if m.labels["end"] > 0x80000 {
		return api.Image{}, "", api.ErrLinkLong
	}
	m.half[-8], m.half[-12], m.half[-16] = "heap", "end", "trap"
	m.fill()
	return api.Image{Words: wordsIn(m.bytes), Entry: 32}, "", api.OK
}

func plainProg(l []api.Object) ([]byte, string, api.Errno) {
	m, name, e := plainLay(l, 0x80000, func(m *plainMemory, order []int) {
		m.word(0x4EE90010, 0xAFE00000, 0x40000000, 0x81000008, 0xA1E00004, 0x8100000C, 0xA1E00008, 0x8100001C, 0xA1E0000C, 0xA000001C)
		m.halves(0x61000000, 0x41160000, "heap")
		m.word(0xA1000008)
		m.halves(0x61000000, 0x41160000, "end")
		m.word(0xA100000C)
		for _, i := range order {
			m.call(0xF7000000, l[i].Name+"init")
		}
		m.word(0x40000000, 0x81E00004, 0xA1000008, 0x81E00008, 0xA100000C, 0x81E0000C, 0xA100001C, 0x8FE00000, 0x4EE80010, 0xC700000F)
	})
	if e != api.OK {
		return nil, name, e
	}
	if m.labels["end"] > 0xE0000 || 12+len(m.bytes) > 256000 {
		return nil, "", api.ErrLinkLong
	}
	m.fill()
	var sum uint32
	for _, w := range wordsIn(m.bytes) {
		sum += w
	}
	head := &plainMemory{}
	head.word(0x31505243, uint32(len(m.bytes)/4), sum)
	return append(head.bytes, m.bytes...), "", api.OK
}
