package engine

import (
	"slices"
	"strconv"

	"kist/api"
)

func (g *Engine) mkdir(v api.Version, x api.Op) api.Reply {
	return g.become(g.files.Make(v, x.Path, true))
}

func (g *Engine) create(v api.Version, x api.Op) api.Reply {
	return g.become(g.files.Make(v, x.Path, false))
}

func (g *Engine) write(v api.Version, x api.Op) api.Reply {
	return g.become(g.files.Write(v, x.Path, x.Off, x.Data))
}

func (g *Engine) truncate(v api.Version, x api.Op) api.Reply {
	return g.become(g.files.Truncate(v, x.Path, x.Len))
}

func (g *Engine) rename(v api.Version, x api.Op) api.Reply {
	return g.become(g.files.Rename(v, x.Path, x.To))
}

func (g *Engine) unlink(v api.Version, x api.Op) api.Reply {
	return g.become(g.files.Unlink(v, x.Path))
}

// become lets a version be as files has made it.
func (g *Engine) become(v api.Version, e api.Errno) api.Reply {
	if e != api.OK {
		return refusal(e)
	}
	g.now.Versions = slices.Clone(g.now.Versions)
	g.now.Versions[g.placeOf(v.ID)] = v
	return api.Reply{}
}

func (g *Engine) snapshot(v api.Version, _ api.Op) api.Reply { return g.another(v, true) }

func (g *Engine) clone(v api.Version, _ api.Op) api.Reply { return g.another(v, false) }

// another makes another version of what stands in one.
func (g *Engine) another(v api.Version, fixed bool) api.Reply {
	id := g.now.Next
	switch {
	case len(g.now.Versions) == api.MaxVersions:
		return refusal(api.ErrVersions)
	case id == api.MaxNumber: // a superblock could not tell the next one
		return refusal(api.ErrBig)
	}
	v.ID, v.Fixed = id, fixed
	g.now.Next++
	g.now.Versions = append(slices.Clone(g.now.Versions), v)
	return api.Reply{Value: id}
}

func (g *Engine) drop(v api.Version, _ api.Op) api.Reply {
	left := slices.Clone(g.now.Versions)
	g.now.Versions = slices.DeleteFunc(left, func(other api.Version) bool { return other.ID == v.ID })
	return api.Reply{}
}

func (g *Engine) read(v api.Version, x api.Op) api.Reply {
	data, e := g.files.Read(v, x.Path, x.Off, x.Len)
	return api.Reply{Code: e, Data: data}
}

func (g *Engine) list(v api.Version, x api.Op) api.Reply {
	names, e := g.files.List(v, x.Path)
	return api.Reply{Code: e, Names: names}
}

func (g *Engine) stat(v api.Version, x api.Op) api.Reply {
	dir, size, e := g.files.Stat(v, x.Path)
	if dir {
		size = -1
	}
	return api.Reply{Code: e, Value: size}
}

func (g *Engine) versions(api.Version, api.Op) api.Reply {
	var r api.Reply
	for _, v := range g.now.Versions {
		name := strconv.Itoa(v.ID)
		if v.Fixed {
			name += "!"
		}
		r.Names = append(r.Names, name)
	}
	return r
}

func (g *Engine) sync(api.Version, api.Op) api.Reply {
	g.disk.Flush()
	return api.Reply{}
}
