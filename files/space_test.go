package files_test

import (
	"bytes"
	"fmt"
	"math/rand"
	"slices"
	"strings"
	"testing"

	"kist/api"
	"kist/cut"
)

// leave lets just so many blocks be free, and answers those that it took.
func (g *ground) leave(many int) []int {
	g.t.Helper()
	var took []int
	for g.m.Free() > many {
		n, ok := g.m.Take()
		if !ok {
			g.t.Fatal("no block is free")
		}
		took = append(took, n)
	}
	if g.m.Free() != many {
		g.t.Fatalf("%d blocks are free, want %d", g.m.Free(), many)
	}
	return took
}

func (g *ground) giveBack(took []int) {
	for _, n := range took {
		g.m.Back(n)
	}
}

// shifting is the bytes of a whole file that are cut behind each 64 of them; were the first chunk longer by so many, then each other one would begin so many later.
func shifting(t *testing.T, by int) []byte {
	t.Helper()
	chance := rand.New(rand.NewSource(1))
	ender := make([]byte, 7)
	for !cut.Ends(ender, 7) {
		chance.Read(ender)
	}
	data := noise(2, 8192)
	for at := 64; at <= 8192; at += 64 {
		copy(data[at-7:], ender)
		if at+by <= 8192 {
			copy(data[at+by-7:], ender)
		}
	}
	return data
}

// P18.6: a write after which no chunk of the greatest file is as it was, with just 300 free blocks.
func TestNoErrSpaceWhere300AreFree(t *testing.T) {
	g := newGround(t, 4000, 32)
	data := shifting(t, 20)
	v := g.filled(empty(), "/f", data)
	was := g.placed(v, 1)
	if len(was) < 120 {
		t.Fatalf("the file has %d chunks", len(was))
	}
	other := bytes.Clone(data)
	for at := 57; at < 64; at++ {
		other[at]++
	}
	took := g.leave(300)
	w := g.ok(g.f.Write(v, "/f", 57, other[57:64]))
	g.has(w, "/f", other)
	g.has(v, "/f", data)
	same := 0
	for _, c := range g.placed(w, 1) {
		if slices.Contains(was, c) {
			same++
		}
	}
	if same > 2 {
		t.Errorf("%d chunks of %d are the same", same, len(was))
	}
	t.Log("blocks that were taken: ", 300-g.m.Free())
	g.giveBack(took)
	g.collect(v)
	took = g.leave(300)
	g.ok(g.f.Unlink(v, "/f"))
	g.giveBack(took)
	g.collect(v)
	g.leave(300)
	g.ok(g.f.Truncate(v, "/f", 0))
}

// P18.6: each operation with just 300 free blocks, in a version with as many names, and as long ones, as there is room for.
func TestNoErrSpaceInGreatVersions(t *testing.T) {
	g := newGround(t, 4046, 32)
	v := empty()
	long := func(dir, i int) string { return fmt.Sprintf("/%02d/%s%04d", dir, strings.Repeat("n", 12), i) }
	for dir := range 12 {
		v = g.dir(v, fmt.Sprintf("/%02d", dir))
		for i := range 300 {
			v = g.file(v, long(dir, i))
			if i%100 == 0 {
				g.collect(v)
			}
		}
	}
	v = g.filled(v, "/big", shifting(t, 20))
	g.collect(v)
	for i, do := range []func() (api.Version, api.Errno){
		func() (api.Version, api.Errno) { return g.f.Make(v, "/05/new", true) },
		func() (api.Version, api.Errno) { return g.f.Write(v, "/big", 50, noise(1, 30)) },
		func() (api.Version, api.Errno) { return g.f.Write(v, "/big", 7168, noise(1, 1024)) },
		func() (api.Version, api.Errno) { return g.f.Write(v, long(3, 3), 7168, noise(1, 1024)) },
		func() (api.Version, api.Errno) { return g.f.Truncate(v, "/big", 0) },
		func() (api.Version, api.Errno) { return g.f.Truncate(v, "/big", 8191) },
		func() (api.Version, api.Errno) { return g.f.Truncate(v, long(6, 6), 8192) },
		func() (api.Version, api.Errno) { return g.f.Rename(v, "/05", "/06/new") },
		func() (api.Version, api.Errno) { return g.f.Unlink(v, "/big") },
		func() (api.Version, api.Errno) { return g.f.Unlink(v, long(7, 7)) },
	} {
		took := g.leave(300)
		g.ok(do())
		t.Log("operation ", i, " took ", 300-g.m.Free())
		g.giveBack(took)
		g.collect(v)
	}
}

// P18.6: with fewer free blocks a call may be refused: then the zero version is answered, what was taken is new, and the version is as it was.
func TestErrSpace(t *testing.T) {
	refused := 0
	for free := range 40 {
		g := newGround(t, 400, 9)
		v := g.filled(g.some(), "/d/e/big", noise(1, 3000))
		took := g.leave(free)
		for name, do := range map[string]func() (api.Version, api.Errno){
			"Make":     func() (api.Version, api.Errno) { return g.f.Make(v, "/d/new", true) },
			"Write":    func() (api.Version, api.Errno) { return g.f.Write(v, "/d/e/big", 600, noise(2, 1024)) },
			"Truncate": func() (api.Version, api.Errno) { return g.f.Truncate(v, "/d/e/big", 700) },
			"Rename":   func() (api.Version, api.Errno) { return g.f.Rename(v, "/d/e", "/new") },
			"Unlink":   func() (api.Version, api.Errno) { return g.f.Unlink(v, "/d/e/big") },
		} {
			g.begin()
			w, e := do()
			if e != api.OK && (e != api.ErrSpace || w != (api.Version{})) || e == api.OK && w == v {
				t.Errorf("%s with %d free: %v, %v", name, free, w, e)
			}
			if e == api.ErrSpace {
				refused++
			}
			taken := len(g.x.Fresh()) + len(g.s.Fresh())
			if g.m.Free() != free-taken {
				t.Errorf("%s: of %d free blocks %d are left, new are %v and %v", name, free, g.m.Free(), g.x.Fresh(), g.s.Fresh())
			}
			g.has(v, "/d/e/big", noise(1, 3000))
			g.x.Undo()
			g.s.Undo()
			if g.m.Free() != free {
				t.Errorf("%s: behind Undo %d blocks are free, want %d", name, g.m.Free(), free)
			}
			g.has(v, "/d/e/big", noise(1, 3000))
			g.lists(v, "/d", "e", "f")
		}
		g.giveBack(took)
		g.has(g.ok(g.f.Write(v, "/d/e/big", 600, noise(2, 1024))), "/d/e/big", written(noise(1, 3000), 600, noise(2, 1024)))
		if t.Failed() {
			t.FailNow()
		}
	}
	if refused < 20 {
		t.Errorf("only %d calls were refused", refused)
	}
}
