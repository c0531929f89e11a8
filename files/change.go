package files

import (
	"kist/api"
	"kist/tree"
)

// change is a version on its way to another one. With the first error nothing more is done.
type change struct {
	tree    *tree.Tree
	version api.Version
	code    api.Errno
}

func (f *Files) change(v api.Version) *change { return &change{tree: f.tree, version: v} }

func (c *change) put(key, val string) {
	if c.code == api.OK {
		c.version.Root, c.code = c.tree.Put(c.version.Root, key, val)
	}
}

func (c *change) delete(key string) {
	if c.code == api.OK {
		c.version.Root, _, c.code = c.tree.Delete(c.version.Root, key)
	}
}

// made is the other version.
func (c *change) made() (api.Version, api.Errno) {
	if c.code != api.OK {
		return api.Version{}, c.code
	}
	return c.version, api.OK
}
