package engine_test

import (
	"bytes"
	"fmt"
	"slices"
	"strings"
	"testing"

	"kist/api"
	"kist/engine"
	"kist/journal"
)

// The records of the chapter, byte by byte.
func TestRecords(t *testing.T) {
	g := newGround(t, 400).with(func(s *api.Super) {
		s.Versions[0].ID = 0x01020304
		s.Next = 0x01020305
	})
	g.mount()
	const v, w = 0x01020304, 0x01020305
	data := noise(1, 300)
	for i, c := range []struct {
		x    api.Op
		want string
	}{
		{mkdir(v, "/d"), "\x01\x04\x03\x02\x01\x00\x00\x00\x00\x02/d\x00\x00"},
		{create(v, "/d/f"), "\x02\x04\x03\x02\x01\x00\x00\x00\x00\x04/d/f\x00\x00"},
		{write(v, "/d/f", 0x0102, data), "\x03\x04\x03\x02\x01\x02\x01\x00\x00\x04/d/f\x00\xac\x02" + data},
		{write(v, "/d/f", 0, ""), "\x03\x04\x03\x02\x01\x00\x00\x00\x00\x04/d/f\x00\x00"},
		{truncate(v, "/d/f", 0x2000), "\x04\x04\x03\x02\x01\x00\x20\x00\x00\x04/d/f\x00\x00"},
		{rename(v, "/d/f", "/e"), "\x05\x04\x03\x02\x01\x00\x00\x00\x00\x04/d/f\x02/e\x00"},
		{unlink(v, "/e"), "\x06\x04\x03\x02\x01\x00\x00\x00\x00\x02/e\x00\x00"},
		{snapshot(v), "\x07\x04\x03\x02\x01\x00\x00\x00\x00\x00\x00\x00"},
		{clone(w), "\x08\x05\x03\x02\x01\x00\x00\x00\x00\x00\x00\x00"},
		{drop(w), "\x09\x05\x03\x02\x01\x00\x00\x00\x00\x00\x00\x00"},
	} {
		g.do(spoiled(c.x))
		all := g.records()
		if len(all) != i+1 || string(all[i]) != c.want {
			t.Errorf("the record of %v is %q, want %q", c.x, all[len(all)-1], c.want)
		}
	}
	was := g.told()
	g.mount()
	if g.told() != was {
		t.Errorf("told are %s, were %s", g.told(), was)
	}
}

// journalled is a ground with these records in its journal, that is not mounted.
func (g *ground) journalled(records ...string) *ground {
	g.t.Helper()
	d := g.d.Copy()
	j, e := journal.New(d, g.gen())
	if e != api.OK {
		g.t.Fatal(e)
	}
	for _, record := range records {
		if e := j.Append([]byte(record)); e != api.OK {
			g.t.Fatal(e)
		}
	}
	return &ground{t: g.t, d: d}
}

// P19.2: records are done in order.
func TestRecordsAreDone(t *testing.T) {
	g := newGround(t, 128)
	g.do(create(1, "/f"))
	g.checkpoint()
	x := g.journalled(
		"\x03\x01\x00\x00\x00\x01\x00\x00\x00\x02/f\x00\x02ab",
		"\x07\x01\x00\x00\x00\x00\x00\x00\x00\x00\x00\x00",
		"\x04\x01\x00\x00\x00\x02\x00\x00\x00\x02/f\x00\x00",
		"\x05\x01\x00\x00\x00\x00\x00\x00\x00\x02/f\x02/g\x00",
	)
	x.mount()
	x.hasVersions("1", "2!")
	x.lists(1, "/", "g")
	x.reads(1, "/g", "\x00a")
	x.reads(2, "/f", "\x00ab")
	if x.gen() != g.gen()+1 {
		t.Errorf("Gen is %d", x.gen())
	}
}

// P19.2: ErrImage, if a record is no operation's, or is refused.
func TestRecordsThatAreNone(t *testing.T) {
	g := newGround(t, 128)
	g.do(create(1, "/f"))
	g.do(snapshot(1))
	g.checkpoint()
	good := []string{
		"\x01\x01\x00\x00\x00\x00\x00\x00\x00\x02/d\x00\x00",
		"\x03\x01\x00\x00\x00\x05\x00\x00\x00\x02/f\x00\x02ab",
		"\x04\x01\x00\x00\x00\x05\x00\x00\x00\x02/f\x00\x00",
		"\x05\x01\x00\x00\x00\x00\x00\x00\x00\x02/f\x02/g\x00",
		"\x09\x02\x00\x00\x00\x00\x00\x00\x00\x00\x00\x00",
	}
	g.journalled(good...).mount()
	bad := []string{
		"",
		"\x00\x01\x00\x00\x00\x00\x00\x00\x00\x02/d\x00\x00",         // no kind
		"\x0a\x01\x00\x00\x00\x00\x00\x00\x00\x02/f\x00\x00",         // one that changes nothing
		"\x0e\x00\x00\x00\x00\x00\x00\x00\x00\x00\x00\x00",           // the same
		"\xff\x01\x00\x00\x00\x00\x00\x00\x00\x02/d\x00\x00",         // no kind
		"\x01\x01\x00\x00\x00\x01\x00\x00\x00\x02/d\x00\x00",         // a number where there is none
		"\x01\x01\x00\x00\x00\x00\x00\x00\x01\x02/d\x00\x00",         // the same
		"\x01\x01\x00\x00\x00\x00\x00\x00\x00\x02/d\x02/e\x00",       // another path
		"\x01\x01\x00\x00\x00\x00\x00\x00\x00\x02/d\x00\x01x",        // bytes
		"\x05\x01\x00\x00\x00\x00\x00\x00\x00\x02/f\x02/g\x01x",      // the same
		"\x07\x01\x00\x00\x00\x00\x00\x00\x00\x02/f\x00\x00",         // a path
		"\x07\x01\x00\x00\x00\x01\x00\x00\x00\x00\x00\x00",           // a number
		"\x03\x01\x00\x00\x00\x00\x00\x00\x00\x02/f\x01x\x01x",       // another path
		"\x04\x01\x00\x00\x00\x00\x00\x00\x00\x02/f\x00\x01x",        // bytes
		"\x01\x01\x00\x00\x00\x00\x00\x00\x00\x02/d\x00\x00\x00",     // something behind
		"\x01\x01\x00\x00\x00\x00\x00\x00\x00\x82\x00/d\x00\x00",     // a number that is longer than it must be
		"\x01\x01\x00\x00\x00\x00\x00\x00\x00\xff\xff\xff\xff\x0f/d", // a length beyond the end
		"\x01\x01\x00\x00\x00\x00\x00\x00\x00\xff\xff\xff\xff\xff/d", // no number
		"\x01\x03\x00\x00\x00\x00\x00\x00\x00\x02/d\x00\x00",         // no version
		"\x01\x01\x00\x00\x01\x00\x00\x00\x00\x02/d\x00\x00",         // the same
		"\x01\x02\x00\x00\x00\x00\x00\x00\x00\x02/d\x00\x00",         // a fixed one
		"\x01\x01\x00\x00\x00\x00\x00\x00\x00\x01/\x00\x00",          // it is there
		"\x01\x01\x00\x00\x00\x00\x00\x00\x00\x00\x00\x00",           // no path
		"\x03\x01\x00\x00\x00\xff\xff\xff\xff\x02/f\x00\x01x",        // too many bytes
		"\x06\x01\x00\x00\x00\x00\x00\x00\x00\x02/h\x00\x00",         // there is none
	}
	for _, record := range good {
		for size := range len(record) {
			bad = append(bad, record[:size])
		}
	}
	for _, record := range bad {
		x := g.journalled(record)
		was := sectors(x.d)
		if y, e := engine.Mount(x.d); y != nil || e != api.ErrImage {
			t.Errorf("with the record %q: %v, %v", record, y, e)
		}
		if sectors(x.d) != was {
			t.Errorf("with the record %q: something was written", record)
		}
		g.journalled(append(slices.Clone(good), record)...).isNoMount(api.ErrImage)
		g.journalled(record, good[0]).isNoMount(api.ErrImage)
	}
	// Too many versions, no room, and no ID.
	clones := slices.Repeat([]string{"\x08\x01\x00\x00\x00\x00\x00\x00\x00\x00\x00\x00"}, 7)
	g.journalled(clones[:6]...).mount()
	g.journalled(clones...).isNoMount(api.ErrImage)
	var large []string
	for i := range 9 {
		large = append(large, fmt.Sprintf("\x03\x01\x00\x00\x00\x00\x00\x00\x00\x02/f\x00\x80\x08%s", noise(int64(i), 1024)))
	}
	g.journalled(large[:5]...).mount()
	g.journalled(large...).isNoMount(api.ErrImage)
	g = g.with(func(s *api.Super) { s.Next = api.MaxNumber })
	g.journalled(clones[0]).isNoMount(api.ErrImage)
}

// P19.2: only what the journal has of the superblock's Gen is done.
func TestRecordsOfOtherGens(t *testing.T) {
	g := newGround(t, 128)
	g.checkpoint()
	for _, gen := range []int{g.gen() - 1, g.gen() + 1} {
		d := g.d.Copy()
		j, _ := journal.New(d, gen)
		j.Append([]byte("\x01\x01\x00\x00\x00\x00\x00\x00\x00\x02/d\x00\x00"))
		x := &ground{t: t, d: d}
		x.mount()
		x.lists(1, "/")
	}
}

// P19.2: a record that was lost, and one behind it that was not: neither is met again, though new ones come to where the lost one stood.
func TestRecordsBehindALostOne(t *testing.T) {
	for picks := range 1 << 4 {
		g := newGround(t, 200)
		for i := range 4 {
			g.do(create(1, fmt.Sprintf("/%d", i)))
		}
		many := 0
		var persist []int
		for i := range 4 {
			persist = append(persist, picks>>i&1)
			if many == i {
				many += persist[i]
			}
		}
		for times := range 3 { // the next ones are lost
			g.d.Power(persist)
			persist = nil
			g.mount()
			var want []string
			for i := range many {
				want = append(want, fmt.Sprint(i))
			}
			g.lists(1, "/", want...)
			if len(g.records()) > 0 {
				t.Errorf("picks %b: %d records are met", picks, len(g.records()))
			}
			for i := range times + 1 {
				g.do(mkdir(1, fmt.Sprintf("/d%d", i)))
			}
		}
	}
}

// What is done is told alike behind each Mount.
func TestMountAgain(t *testing.T) {
	g := newGround(t, 300)
	for i, x := range []api.Op{
		mkdir(1, "/d"), create(1, "/d/f"), write(1, "/d/f", 5, noise(1, 1000)), snapshot(1), write(1, "/d/f", 0, noise(1, 600)),
		clone(2), write(3, "/d/f", 900, strings.Repeat("x", 700)), rename(3, "/d", "/e"), truncate(1, "/d/f", 300), drop(2), unlink(1, "/d/f"), create(3, "/f"),
	} {
		g.do(x)
		was := g.told()
		if !bytes.Contains([]byte(was), []byte("next ")) {
			t.Fatal(was)
		}
		for range i % 3 {
			g.mount()
			if g.told() != was {
				t.Fatalf("told are %s, were %s", g.told(), was)
			}
		}
	}
}
