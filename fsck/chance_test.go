package fsck_test

import (
	"fmt"
	"maps"
	"math/rand"
	"slices"
	"testing"

	"kist/api"
	"kist/block"
	"kist/disk"
	"kist/fsck"
	"kist/node"
)

// story is a ground that is told operations by chance, with the collector between them.
type story struct {
	*ground
	chance *rand.Rand
	many   map[api.Errno]int
	lazy   int // so many times as seldom the collector comes
}

// op is an operation by chance, of few names and few bytes, so that they meet.
func (s *story) op() api.Op {
	v := s.chance.Intn(s.g.Next()) // that there may not be any more
	for _, x := range s.g.Versions() {
		if s.chance.Intn(3) > 0 && (!x.Fixed || s.chance.Intn(12) == 0) {
			v = x.ID
		}
	}
	name := func() string {
		return []string{"/a", "/b", "/c", "/d/a", "/d/b", "/d/e/a", "/d", "/d/e", "/d/e/f/g/h", "/d/e/f/g/h/i", "/h"}[s.chance.Intn(11)]
	}
	seed, many := s.chance.Int63n(5), s.chance.Intn([]int{30, 300, 600, 1024}[s.chance.Intn(4)])
	switch s.chance.Intn(24) {
	case 0, 1, 2:
		return of(api.OpMkdir, v, []string{"/d", "/d/e", "/h", "/d/e/f", "/d/e/f/g"}[s.chance.Intn(5)])
	case 3, 4, 5:
		return of(api.OpCreate, v, name())
	case 6, 7:
		return truncate(v, name(), s.chance.Intn([]int{600, 1500, 8193}[s.chance.Intn(3)]))
	case 8, 9, 10:
		return rename(v, name(), name())
	case 11, 12:
		return of(api.OpUnlink, v, name())
	case 13:
		return of([]int{api.OpSnapshot, api.OpClone}[s.chance.Intn(2)], v, "")
	case 14:
		if len(s.g.Versions()) > 3 || s.chance.Intn(300) == 0 {
			return of(api.OpDrop, v, "")
		}
		return api.Op{Kind: api.OpSync}
	}
	return write(v, name(), s.chance.Intn(1500), noise(seed, many))
}

// step does something by chance.
func (s *story) step() {
	s.t.Helper()
	switch s.chance.Intn(30 * s.lazy) {
	case 0:
		s.g.Checkpoint()
	case 1, 2, 3, 4:
		for range s.chance.Intn(90) {
			s.c.Step()
		}
	default:
		s.many[s.g.Do(s.op()).Code]++
	}
}

// power lets the power go within the next steps, whatever persists, and mounts what is there then.
func (s *story) power() {
	s.t.Helper()
	s.d.Cut(s.chance.Intn(40))
	for range s.chance.Intn(20) {
		s.step()
	}
	var picks []int
	for range s.d.Dirty() {
		picks = append(picks, s.chance.Intn(3)*s.chance.Intn(9))
	}
	s.d.Power(picks)
	s.isWell()
	if s.chance.Intn(2) == 0 { // and once more, within Mount
		x := s.d.Copy()
		x.Cut(s.chance.Intn(60))
		mounted(s.t, x)
		x.Power([]int{s.chance.Intn(3), s.chance.Intn(3), s.chance.Intn(3)})
		s.d = x
		s.isWell()
	}
	s.ground = mounted(s.t, s.d)
	s.isJustSo()
}

// isWell wants the image to be well formed. (P21.2)
func (s *story) isWell() {
	s.t.Helper()
	was := s.d.Copy()
	if r, e := fsck.Check(s.d); e != api.OK {
		s.t.Fatalf("Check() = %v, %v", r, e)
	}
	isAsItWas(s.t, s.d, was)
}

// isJustSo wants an image whose journal is empty to have what the engine tells. (P21.3)
func (s *story) isJustSo() {
	s.t.Helper()
	_, want := s.told()
	want.Blocks = len(blocksOf(s.t, s.d))
	checked(s.t, s.d, want)
}

// P21.2: whatever an engine does, and a collector, the image is well formed at any time, with the power gone or not.
func TestStories(t *testing.T) {
	many, power := map[api.Errno]int{}, 0
	for seed := range int64(24) {
		s := &story{ground: newGround(t, []int{128, 128, 160, 400}[seed%4]), chance: rand.New(rand.NewSource(seed)), many: many, lazy: []int{1, 5, 25}[seed%3]}
		for range 250 {
			s.step()
			switch s.chance.Intn(50) {
			case 0:
				s.power()
				power++
			case 1:
				s.checkpoint()
				s.isJustSo()
			case 2, 3, 4, 5, 6, 7:
				s.isWell()
			}
		}
	}
	if many[api.OK] < 1000 || many[api.ErrSpace] < 5 || power < 80 {
		t.Errorf("the answers were %v, the power went %d times", many, power)
	}
}

// P21.2: the power goes ahead of each write and flush of one story, with nothing, all or something of it persisting.
func TestPowerAtEachWrite(t *testing.T) {
	play := func(d *disk.Disk) {
		g := mounted(t, d)
		for _, x := range []api.Op{
			of(api.OpMkdir, 1, "/d"), of(api.OpCreate, 1, "/d/f"), write(1, "/d/f", 0, noise(1, 900)), of(api.OpSnapshot, 1, ""),
			of(api.OpCreate, 1, "/g"), write(1, "/g", 5, noise(2, 1000)), {Kind: api.OpSync}, rename(1, "/d", "/e"), of(api.OpUnlink, 1, "/e/f"),
		} {
			g.g.Do(x)
			for range 9 {
				g.c.Step()
			}
		}
		g.g.Checkpoint()
		g.g.Do(of(api.OpDrop, 2, ""))
		for done := false; !done; {
			done, _ = g.c.Step()
			if g.c.Phase() == 0 {
				break
			}
		}
	}
	ground := newGround(t, 128)
	first := ground.d.Copy()
	for at := 0; ; at++ {
		var last *disk.Disk
		for _, pick := range []int{0, 1, 2, -1} {
			d := first.Copy()
			d.Cut(at)
			play(d)
			var picks []int
			for k := range d.Dirty() {
				picks = append(picks, []int{pick, k}[k%2])
			}
			d.Power(picks)
			if r, e := fsck.Check(d); e != api.OK {
				t.Fatalf("behind %d writes: Check() = %v, %v", at, r, e)
			}
			last = d
		}
		if whole := first.Copy(); at > 0 {
			play(whole)
			whole.Power(nil)
			last.Flush()
			if sectors(whole) == sectors(last) {
				if at < 45 {
					t.Errorf("there are %d writes", at)
				}
				return
			}
		}
	}
}

// P21.1 and P21.4: a bit of anything rots: it is told well formed just if it is.
func TestRotByChance(t *testing.T) {
	chance := rand.New(rand.NewSource(1))
	g := newGround(t, 150)
	for n := range 12 {
		path := fmt.Sprintf("/f%d", n)
		g.do(of(api.OpCreate, 1, path))
		g.do(write(1, path, 0, noise(int64(n), 70*n)))
	}
	g.do(of(api.OpSnapshot, 1, ""))
	g.checkpoint()
	g.do(of(api.OpMkdir, 1, "/d"))
	many := map[bool]int{}
	for range 300 {
		d := g.d.Copy()
		for range 1 + chance.Intn(2) {
			d.Rot(chance.Intn(2048 * 150))
		}
		many[isTold(t, d, "rot")]++
	}
	if many[true] < 50 || many[false] < 50 {
		t.Error(many)
	}
}

// P21.1 and P21.4: blocks that are whole, with other bytes than they had.
func TestSpoiledByChance(t *testing.T) {
	chance := rand.New(rand.NewSource(2))
	many := map[bool]int{}
	for range 60 {
		im := newImage(t, 200)
		im.s.Versions[0].Root = im.root(im.base())
		base := im.disk()
		used := slices.Sorted(maps.Keys(blocksOf(t, base)))
		for range 40 {
			d := base.Copy()
			for range 1 + chance.Intn(2) {
				spoil(t, d, used[chance.Intn(len(used))], chance)
			}
			is := isTold(t, d, "spoiled")
			if many[is]++; is {
				mounted(t, d).told()
			}
		}
	}
	if many[true] < 10 || many[false] < 500 {
		t.Error(many)
	}
}

// spoil lets a block have another byte, or a node other entries, and be whole.
func spoil(t *testing.T, d *disk.Disk, n int, chance *rand.Rand) {
	t.Helper()
	sector, _ := d.Read(n)
	b, e := block.Get(n, sector)
	if e != api.OK {
		return // it was spoiled already, beyond
	}
	x, isNode := node.Get(b)
	switch at := chance.Intn(len(b.Body) + 2); {
	case isNode == api.OK && chance.Intn(2) == 0:
		k := chance.Intn(len(x.Keys))
		x.Keys = slices.Delete(x.Keys, k, k+1)
		if x.Leaf {
			x.Vals = slices.Delete(x.Vals, k, k+1)
		} else {
			x.Kids = slices.Delete(x.Kids, k, k+1)
		}
		if other, e := node.Put(x); e == api.OK {
			b = other
		}
	case at == len(b.Body):
		b.Kind = api.KindLeaf + chance.Intn(4)
	case at > len(b.Body):
		b.Body = b.Body[:chance.Intn(len(b.Body)+1)]
	default:
		b.Body[at] ^= 1 << chance.Intn(8)
	}
	sector, e = block.Put(n, b)
	if e != api.OK {
		t.Fatal(e)
	}
	d.Write(n, sector)
}

// P21.1 and P21.3: trees of few inodes, names and chunks, all by chance.
func TestTalesByChance(t *testing.T) {
	chance := rand.New(rand.NewSource(3))
	many := map[bool]int{}
	for range 1500 {
		im := newImage(t, 128)
		im.s.Versions[0].Next = 6
		a := im.byChance(chance)
		im.s.Versions[0].Root = im.root(a)
		d := im.disk()
		is := isTold(t, d, a)
		many[is]++
		if !is {
			continue
		}
		if told, _ := mounted(t, d).told(); told != im.tale(a) {
			t.Fatalf("told are %s, want %s", told, im.tale(a))
		}
	}
	if many[true] < 300 || many[false] < 300 {
		t.Error(many)
	}
}

// byChance is a tale that is well formed often enough.
func (im *image) byChance(chance *rand.Rand) tale {
	a := tale{}
	seldom := func() bool { return chance.Intn(25) == 0 }
	dirs := []int{0}
	for n := 1; n <= 5; n++ {
		if chance.Intn(4) == 0 {
			continue
		}
		up := dirs[chance.Intn(len(dirs))]
		if seldom() {
			up = chance.Intn(7)
		}
		a[nameAt(up, string([]byte{byte('a' + n)}))] = number(n)
		if seldom() {
			a[nameAt(chance.Intn(4), "z")] = number(n)
		}
		if chance.Intn(2) == 0 {
			a[inodeAt(n)] = isDir()
			dirs = append(dirs, n)
			continue
		}
		data := noise(chance.Int63n(4), chance.Intn(900))
		all := pieces(data)
		for place, data := range all {
			a[placeAt(n, place)] = at(im.chunk(data))
		}
		a[inodeAt(n)] = isFile(len(data))
		if seldom() {
			delete(a, placeAt(n, chance.Intn(3)))
		}
		if seldom() {
			a[placeAt(n, chance.Intn(9))] = at(im.chunk(noise(1, 70)))
		}
	}
	if seldom() {
		a[inodeAt(chance.Intn(7))] = isFile(0)
	}
	return a
}
