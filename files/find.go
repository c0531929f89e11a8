package files

import (
	"math"
	"slices"

	"kist/api"
	"kist/names"
)

// at is what stands at a path.
func (f *Files) at(root int, path string) (inode, api.Errno) {
	l, e := names.Split(path)
	if e != api.OK {
		return inode{}, e
	}
	return f.find(root, l)
}

// find is what stands at the path of some names.
func (f *Files) find(root int, l []string) (inode, api.Errno) {
	at := inode{dir: true}
	for _, name := range l {
		if !at.dir {
			return inode{}, api.ErrFile
		}
		leads := key(nameKey, at.number, []byte(name)...)
		val, found, e := f.tree.Get(root, leads)
		switch {
		case e != api.OK:
			return inode{}, e
		case !found:
			return inode{}, api.ErrNone
		}
		if at, e = f.told(root, val); e != api.OK {
			return inode{}, e
		}
		at.leads = leads
	}
	return at, api.OK
}

// told is the inode that is told at a name.
func (f *Files) told(root int, name string) (inode, api.Errno) {
	number, ok := inodeOf(name)
	if !ok {
		return inode{}, api.ErrImage
	}
	val, found, e := f.tree.Get(root, key(inodeKey, number))
	switch {
	case e != api.OK:
		return inode{}, e
	case !found || len(val) != 1+numberSize:
		return inode{}, api.ErrImage
	}
	is := inode{number: number, dir: val[0] == kindDir, size: numberOf(val[1:])}
	if is.val() != val || is.size > api.MaxFile || is.dir && is.size > 0 {
		return inode{}, api.ErrImage
	}
	return is, api.OK
}

// vacant is the key of the last of some names, that its directory does not have.
func (f *Files) vacant(root int, l []string) (string, api.Errno) {
	if len(l) == 0 {
		return "", api.ErrExists
	}
	ahead, name := l[:len(l)-1], l[len(l)-1]
	in, e := f.find(root, ahead)
	switch {
	case e != api.OK:
		return "", e
	case !in.dir:
		return "", api.ErrFile
	}
	leads := key(nameKey, in.number, []byte(name)...)
	_, found, e := f.tree.Get(root, leads)
	switch {
	case e != api.OK:
		return "", e
	case found:
		return "", api.ErrExists
	}
	return leads, api.OK
}

// deeper tells whether something stands more than so many names below what a path leads to.
func (f *Files) deeper(root int, at inode, most int) (bool, api.Errno) {
	if !at.dir {
		return false, api.OK
	}
	level := []int{at.number}
	for range most + 1 {
		var next []int
		for _, number := range level {
			entries, e := f.entries(root, nameKey, number, number, math.MaxInt)
			if e != api.OK {
				return false, e
			}
			for _, entry := range entries {
				below, ok := inodeOf(entry.Val)
				if !ok {
					return false, api.ErrImage
				}
				next = append(next, below)
			}
		}
		// In a tree that is no version's many ways may lead to one directory: it must not be gone through once for each.
		slices.Sort(next)
		level = slices.Compact(next)
	}
	return len(level) > 0, api.OK
}

// entries is the first most of those with a letter and one of the inodes from the first to the last.
func (f *Files) entries(root int, letter byte, first, last, most int) ([]api.Entry, api.Errno) {
	// All names and all places are below these bytes.
	end := key(letter, last, math.MaxUint8, math.MaxUint8, math.MaxUint8)
	return f.tree.Scan(root, key(letter, first), end, most)
}
