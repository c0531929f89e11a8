package engine

import (
	"slices"

	"kist/api"
)

// deed is what an operation does to an engine, and what is answered; v is the version that it asks for, if there is one.
type deed func(g *Engine, v api.Version, x api.Op) api.Reply

// deeds tells what each kind of operation does.
func deeds() map[int]deed {
	return map[int]deed{
		api.OpMkdir:    (*Engine).mkdir,
		api.OpCreate:   (*Engine).create,
		api.OpWrite:    (*Engine).write,
		api.OpTruncate: (*Engine).truncate,
		api.OpRename:   (*Engine).rename,
		api.OpUnlink:   (*Engine).unlink,
		api.OpSnapshot: (*Engine).snapshot,
		api.OpClone:    (*Engine).clone,
		api.OpDrop:     (*Engine).drop,
		api.OpRead:     (*Engine).read,
		api.OpList:     (*Engine).list,
		api.OpStat:     (*Engine).stat,
		api.OpVersions: (*Engine).versions,
		api.OpSync:     (*Engine).sync,
	}
}

// Do does an operation.
func (g *Engine) Do(x api.Op) api.Reply {
	if !changes(x.Kind) {
		return g.reply(x)
	}
	record := recordOf(x)
	g.makeRoom(record)
	return g.change(x, func() api.Errno { return g.journal.Append(record) })
}

// makeRoom makes a checkpoint, if the journal has no room for a record without one, and has with one. Where no Gen is left for it, it is the journal that refuses the record, by the same error, behind all others.
func (g *Engine) makeRoom(record []byte) {
	many := (len(record) + api.PieceSize - 1) / api.PieceSize
	if many > g.journal.Room() && many <= api.JournalLen {
		g.Checkpoint()
	}
}

// change does an operation that changes something; log is called when it is done, and may refuse it still.
func (g *Engine) change(x api.Op, log func() api.Errno) (r api.Reply) {
	before := g.now
	g.tree.Begin()
	g.store.Begin()
	defer func() {
		if r.Code != api.OK {
			g.now = before
			g.tree.Undo()
			g.store.Undo()
		}
	}()
	r = g.reply(x)
	if r.Code != api.OK {
		return r
	}
	if e := log(); e != api.OK {
		return refusal(e)
	}
	g.spare()
	return r
}

// reply does what the kind of an operation tells.
func (g *Engine) reply(x api.Op) api.Reply {
	var v api.Version
	at := g.placeOf(x.Version)
	switch {
	case at >= 0:
		v = g.now.Versions[at]
	case asksVersion(x.Kind):
		return refusal(api.ErrVersion)
	}
	does, ok := deeds()[x.Kind]
	switch {
	case !ok:
		return refusal(api.ErrOp)
	case v.Fixed && changesFiles(x.Kind):
		return refusal(api.ErrFixed)
	}
	return does(g, v, x)
}

// placeOf is where a version stands among all, by its ID; -1, if there is none.
func (g *Engine) placeOf(id int) int {
	return slices.IndexFunc(g.now.Versions, func(v api.Version) bool { return v.ID == id })
}

// asksVersion tells whether operations of a kind are of a version.
func asksVersion(kind int) bool { return kind != api.OpVersions && kind != api.OpSync }

// changes tells whether operations of a kind change something.
func changes(kind int) bool { return kind >= api.OpMkdir && kind <= api.OpDrop }

// changesFiles tells whether operations of a kind change a version's files, which a fixed one does not let them.
func changesFiles(kind int) bool { return kind >= api.OpMkdir && kind <= api.OpUnlink }

func refusal(e api.Errno) api.Reply { return api.Reply{Code: e} }
