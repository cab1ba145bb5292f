package dir

import (
	"slices"
	"strings"

	"carrel/api"
)

// Insert puts an entry in, or another one in its place; Delete takes it out; Rename gives it another name.
func (x *Dir) Insert(e api.Entry) api.Errno {
	if x == nil {
		return api.ErrNil
	}
	if !IsName(e.Name) {
		return api.ErrDirName
	}
	e.Name = strings.Clone(e.Name)
	f, ok := readHeader(x.disk, e)
	taken, mine := x.taken.without(f.sectors...)
	if !ok || !mine {
		return api.ErrArg
	}
	files, left := put(x.files, f)
	if len(files) > api.MaxFiles {
		return api.ErrDirFull
	}
	if !x.lay(files, left) {
		return api.ErrDirDisk
	}
	x.taken = taken
	return api.OK
}

func (x *Dir) Delete(name string) api.Errno {
	if x == nil {
		return api.ErrNil
	}
	at, there := place(x.files, name)
	if !there {
		return api.ErrDirNone
	}
	left := x.files[at].sectors
	if !x.lay(slices.Delete(slices.Clone(x.files), at, at+1), left) {
		return api.ErrDirDisk
	}
	return api.OK
}

func (x *Dir) Rename(from, to string) api.Errno {
	if x == nil {
		return api.ErrNil
	}
	if !IsName(to) {
		return api.ErrDirName
	}
	at, there := place(x.files, from)
	if !there {
		return api.ErrDirNone
	}
	if _, has := place(x.files, to); has {
		return api.ErrDirHas
	}
	f := x.files[at]
	f.Name = strings.Clone(to)
	files, _ := put(slices.Delete(slices.Clone(x.files), at, at+1), f)
	if !x.lay(files, nil) {
		return api.ErrDirDisk
	}
	return api.OK
}

// put is files with one more, and the sectors that the one of its name had, which it takes the place of.
func put(files []file, f file) ([]file, []int) {
	at, there := place(files, f.Name)
	if !there {
		return slices.Insert(slices.Clone(files), at, f), nil
	}
	left := files[at].sectors
	files = slices.Clone(files)
	files[at] = f
	return files, left
}

// lay makes the directory one of these files, if there is room for it; what the files that are gone have left is free then. Up to the root's write the disk names the leaves that there were: none of the sectors that it names is written, as they are not free.
func (x *Dir) lay(files []file, left []int) bool {
	leaves, free, ok := x.free.least(leavesFor(len(files)))
	if !ok || len(x.disk.Writes())+len(leaves)+1 > api.MaxWrites {
		return false
	}
	for i, leaf := range leaves {
		part := files[i*leafEntries:]
		x.disk.Write(leaf, leafBytes(part[:min(leafEntries, len(part))]))
	}
	x.disk.Write(rootSector, rootBytes(leaves))
	x.free = free.with(x.leaves...).with(left...)
	x.files, x.leaves = files, leaves
	return true
}

func leavesFor(files int) int { return (files + leafEntries - 1) / leafEntries }
