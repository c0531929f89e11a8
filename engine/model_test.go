package engine_test

import (
	"fmt"
	"maps"
	"slices"
	"strings"

	"kist/api"
	"kist/names"
)

// thing is a file or a directory.
type thing struct {
	dir  bool
	data []byte
}

// model is the chapter told once more: what stands at each path, but for /.
type model map[string]thing

// split is a path as the one above it and a name.
func split(path string) (string, string) {
	at := strings.LastIndex(path, "/")
	return path[:at], path[at+1:]
}

// prefixes is the paths that a path leads through, / first, as "".
func prefixes(path string) []string {
	out := []string{""}
	for i := 1; i < len(path); i++ {
		if path[i] == '/' {
			out = append(out, path[:i])
		}
	}
	if path != "/" {
		out = append(out, path)
	}
	return out
}

func isPath(path string) bool {
	_, e := names.Split(path)
	return e == api.OK
}

// find is what stands at a path.
func (m model) find(path string) (thing, api.Errno) {
	if !isPath(path) {
		return thing{}, api.ErrPath
	}
	at := thing{dir: true}
	for _, p := range prefixes(path)[1:] {
		if !at.dir {
			return thing{}, api.ErrFile
		}
		next, there := m[p]
		if !there {
			return thing{}, api.ErrNone
		}
		at = next
	}
	return at, api.OK
}

func (m model) names(path string) []string {
	var out []string
	for p := range m {
		if above, name := split(p); above == strings.TrimSuffix(path, "/") {
			out = append(out, name)
		}
	}
	slices.Sort(out)
	return out
}

// vacant tells whether something may come to a path that is one.
func (m model) vacant(path string) api.Errno {
	if path == "/" {
		return api.ErrExists
	}
	above, _ := split(path)
	at, e := m.find(max(above, "/"))
	switch {
	case e != api.OK:
		return e
	case !at.dir:
		return api.ErrFile
	}
	if _, there := m[path]; there {
		return api.ErrExists
	}
	return api.OK
}

func (m model) make(path string, dir bool) api.Errno {
	if !isPath(path) {
		return api.ErrPath
	}
	e := m.vacant(path)
	if e == api.OK {
		m[path] = thing{dir: dir}
	}
	return e
}

// set puts other bytes into a file.
func (m model) set(path string, other func(data []byte) []byte) api.Errno {
	at, e := m.find(path)
	switch {
	case e != api.OK:
		return e
	case at.dir:
		return api.ErrDir
	}
	m[path] = thing{data: other(at.data)}
	return api.OK
}

func (m model) write(path string, off int, more []byte) api.Errno {
	switch {
	case off < 0:
		return api.ErrArg
	case len(more) > 1024 || off+len(more) > 8192:
		return api.ErrBig
	}
	return m.set(path, func(data []byte) []byte { return written(data, off, more) })
}

func (m model) truncate(path string, size int) api.Errno {
	switch {
	case size < 0:
		return api.ErrArg
	case size > 8192:
		return api.ErrBig
	}
	return m.set(path, func(data []byte) []byte {
		out := make([]byte, size)
		copy(out, data)
		return out
	})
}

func (m model) unlink(path string) api.Errno {
	at, e := m.find(path)
	switch {
	case e != api.OK:
		return e
	case path == "/":
		return api.ErrLoop
	case at.dir && len(m.names(path)) > 0:
		return api.ErrNotEmpty
	}
	delete(m, path)
	return api.OK
}

func (m model) rename(path, to string) api.Errno {
	if !isPath(path) || !isPath(to) {
		return api.ErrPath
	}
	if _, e := m.find(path); e != api.OK {
		return e
	}
	if path == "/" || strings.HasPrefix(to+"/", path+"/") {
		return api.ErrLoop
	}
	if e := m.vacant(to); e != api.OK {
		return e
	}
	moved := model{}
	for p, at := range m {
		if behind, below := strings.CutPrefix(p+"/", path+"/"); below {
			moved[strings.TrimSuffix(to+"/"+behind, "/")] = at
		}
	}
	for p := range moved {
		if strings.Count(p, "/") > 6 {
			return api.ErrBig
		}
	}
	maps.DeleteFunc(m, func(p string, _ thing) bool { return strings.HasPrefix(p+"/", path+"/") })
	maps.Copy(m, moved)
	return api.OK
}

func written(data []byte, off int, more []byte) []byte {
	if len(more) == 0 {
		return data
	}
	out := make([]byte, max(len(data), off+len(more)))
	copy(out, data)
	copy(out[off:], more)
	return out
}

func (m model) read(path string, off, many int) ([]byte, api.Errno) {
	if off < 0 || many < 0 {
		return nil, api.ErrArg
	}
	at, e := m.find(path)
	switch {
	case e != api.OK:
		return nil, e
	case at.dir:
		return nil, api.ErrDir
	}
	data := at.data[min(off, len(at.data)):]
	return data[:min(many, len(data))], api.OK
}

func (m model) list(path string) ([]string, api.Errno) {
	at, e := m.find(path)
	switch {
	case e != api.OK:
		return nil, e
	case !at.dir:
		return nil, api.ErrFile
	}
	return m.names(path), api.OK
}

// world is the chapter told once more: all versions, by their IDs.
type world struct {
	of    map[int]model
	fixed map[int]bool
	next  int
}

func newWorld() world { return world{of: map[int]model{1: {}}, fixed: map[int]bool{}, next: 2} }

// other is one that may be changed by itself.
func (w world) other() world {
	out := world{map[int]model{}, maps.Clone(w.fixed), w.next}
	for id, m := range w.of {
		out.of[id] = maps.Clone(m)
	}
	return out
}

func (w world) ids() []int { return slices.Sorted(maps.Keys(w.of)) }

// name is how a version is told of.
func (w world) name(id int) string {
	if w.fixed[id] {
		return fmt.Sprint(id, "!")
	}
	return fmt.Sprint(id)
}

// told is what an engine tells, if it is as this world is.
func (w world) told() string {
	var out strings.Builder
	for _, id := range w.ids() {
		fmt.Fprintf(&out, "%s:", w.name(id))
		w.of[id].tell(&out, "")
	}
	fmt.Fprintf(&out, "next %d", w.next)
	return out.String()
}

func (m model) tell(out *strings.Builder, path string) {
	for _, name := range m.names(path) {
		at := path + "/" + name
		if m[at].dir {
			fmt.Fprintf(out, "%s/;", at)
			m.tell(out, at)
			continue
		}
		fmt.Fprintf(out, "%s=%q;", at, m[at].data)
	}
}

// do is what an operation is to be answered, but for a want of room; with an error nothing has changed.
func (w *world) do(x api.Op) api.Reply {
	m, there := w.of[x.Version]
	if !there && x.Kind != api.OpVersions && x.Kind != api.OpSync {
		return api.Reply{Code: api.ErrVersion}
	}
	if w.fixed[x.Version] && x.Kind >= api.OpMkdir && x.Kind <= api.OpUnlink {
		return api.Reply{Code: api.ErrFixed}
	}
	var r api.Reply
	switch x.Kind {
	case api.OpMkdir, api.OpCreate:
		r.Code = m.make(x.Path, x.Kind == api.OpMkdir)
	case api.OpWrite:
		r.Code = m.write(x.Path, x.Off, x.Data)
	case api.OpTruncate:
		r.Code = m.truncate(x.Path, x.Len)
	case api.OpRename:
		r.Code = m.rename(x.Path, x.To)
	case api.OpUnlink:
		r.Code = m.unlink(x.Path)
	case api.OpSnapshot, api.OpClone:
		return w.fork(x)
	case api.OpDrop:
		delete(w.of, x.Version)
		delete(w.fixed, x.Version)
	case api.OpRead:
		r.Data, r.Code = m.read(x.Path, x.Off, x.Len)
	case api.OpList:
		r.Names, r.Code = m.list(x.Path)
	case api.OpStat:
		at, e := m.find(x.Path)
		r = api.Reply{Code: e, Value: len(at.data)}
		if at.dir {
			r.Value = -1
		}
	case api.OpVersions:
		for _, id := range w.ids() {
			r.Names = append(r.Names, w.name(id))
		}
	case api.OpSync:
	default:
		r.Code = api.ErrOp
	}
	return r
}

func (w *world) fork(x api.Op) api.Reply {
	if len(w.of) == 8 {
		return api.Reply{Code: api.ErrVersions}
	}
	id := w.next
	w.next++
	w.of[id] = maps.Clone(w.of[x.Version])
	if x.Kind == api.OpSnapshot {
		w.fixed[id] = true
	}
	return api.Reply{Value: id}
}
