package super_test

import (
	"bytes"
	"math"
	"math/rand"
	"slices"
	"testing"

	"kist/api"
	"kist/disk"
	"kist/sums"
	"kist/super"
)

// first is the chapter's example.
func first() api.Super {
	return api.Super{Gen: 1, Sectors: 128, Next: 2, Versions: []api.Version{{ID: 1, Next: 1}}}
}

// wide is one with all that it may have, at the upper edges.
func wide() api.Super {
	s := api.Super{Gen: api.MaxNumber, Sectors: 4096, Next: api.MaxNumber}
	for i := range 8 {
		s.Versions = append(s.Versions, api.Version{ID: api.MaxNumber - 8 + i, Root: 4095, Next: 1 << 24, Fixed: i%2 == 0})
	}
	return s
}

// of is the chapter's example with another generation and another next number, by which it is told apart.
func of(gen, next int) api.Super {
	s := first()
	s.Gen, s.Next = gen, next
	return s
}

func anySuper(chance *rand.Rand) api.Super {
	s := api.Super{Gen: 1 + chance.Intn(api.MaxNumber), Sectors: 128 + chance.Intn(4096-127), Next: 1}
	for range chance.Intn(9) {
		v := api.Version{ID: s.Next + chance.Intn(1<<28), Next: 1 + chance.Intn(1<<24), Fixed: chance.Intn(2) == 0}
		if chance.Intn(3) > 0 {
			v.Root = 50 + chance.Intn(s.Sectors-50)
		}
		s.Versions = append(s.Versions, v)
		s.Next = v.ID + 1
	}
	s.Next += chance.Intn(1 << 30)
	return s
}

// low is a number's bytes, the lowest first.
func low(number, many int) []byte {
	var out []byte
	for range many {
		out = append(out, byte(number%256))
		number /= 256
	}
	return out
}

// slow is the chapter told once more: one byte of the sector behind the other.
func slow(s api.Super) []byte {
	out := slices.Concat([]byte("KIST"), low(s.Gen, 4), low(s.Sectors, 2), low(s.Next, 4), low(len(s.Versions), 1))
	for _, v := range s.Versions {
		fixed := byte(0)
		if v.Fixed {
			fixed = 1
		}
		out = slices.Concat(out, low(v.ID, 4), low(v.Root, 2), low(v.Next, 4), []byte{fixed})
	}
	for len(out) < 252 {
		out = append(out, 0)
	}
	return sealed(out)
}

// sealed is 252 bytes and the sum that they have.
func sealed(data []byte) []byte {
	return append(bytes.Clone(data[:252]), low(sums.Crc(data[:252]), 4)...)
}

func same(a, b api.Super) bool {
	return a.Gen == b.Gen && a.Sectors == b.Sectors && a.Next == b.Next && slices.Equal(a.Versions, b.Versions)
}

func isZero(s api.Super) bool { return same(s, api.Super{}) }

func put(t *testing.T, s api.Super) []byte {
	t.Helper()
	out, e := super.Put(s)
	if e != api.OK {
		t.Fatalf("Put(%v): %v", s, e)
	}
	return out
}

func gets(t *testing.T, sector []byte, want api.Super) {
	t.Helper()
	if got, ok := super.Get(sector); !ok || !same(got, want) {
		t.Errorf("Get = %v, %v, want %v", got, ok, want)
	}
}

func getsNone(t *testing.T, what string, sector []byte) {
	t.Helper()
	if got, ok := super.Get(sector); ok || !isZero(got) {
		t.Errorf("%s: Get = %v, %v, want none", what, got, ok)
	}
}

func newDisk(t *testing.T, sectors int) *disk.Disk {
	t.Helper()
	d, e := disk.New(sectors)
	if e != api.OK {
		t.Fatalf("New(%d): %v", sectors, e)
	}
	return d
}

func save(t *testing.T, d *disk.Disk, s api.Super) {
	t.Helper()
	if e := super.Save(d, s); e != api.OK {
		t.Fatalf("Save(%v): %v", s, e)
	}
}

func lay(t *testing.T, d *disk.Disk, at int, sector []byte) {
	t.Helper()
	if e := d.Write(at, sector); e != api.OK {
		t.Fatalf("Write(%d): %v", at, e)
	}
	d.Flush()
}

func loads(t *testing.T, d *disk.Disk, want api.Super) {
	t.Helper()
	if got, e := super.Load(d); e != api.OK || !same(got, want) {
		t.Errorf("Load = %v, %v, want %v", got, e, want)
	}
}

func loadsNone(t *testing.T, d *disk.Disk, want api.Errno) {
	t.Helper()
	if got, e := super.Load(d); e != want || !isZero(got) {
		t.Errorf("Load = %v, %v, want nothing and %v", got, e, want)
	}
}

func has(t *testing.T, d *disk.Disk, at int, want []byte) {
	t.Helper()
	if got, e := d.Read(at); e != api.OK || !bytes.Equal(got, want) {
		t.Errorf("sector %d has %v, %v, want %v", at, got, e, want)
	}
}

func rot(t *testing.T, d *disk.Disk, bit int) {
	t.Helper()
	if e := d.Rot(bit); e != api.OK {
		t.Fatalf("Rot(%d): %v", bit, e)
	}
}

// P10.1

// mays are superblocks that may be: the edges that the chapter names.
func mays() []api.Super {
	out := []api.Super{first(), wide()}
	add := func(change func(s *api.Super)) {
		s := first()
		change(&s)
		out = append(out, s)
	}
	add(func(s *api.Super) { s.Gen = api.MaxNumber })
	add(func(s *api.Super) { s.Gen = api.MaxNumber - 1 })
	add(func(s *api.Super) { s.Next = api.MaxNumber })
	add(func(s *api.Super) { s.Next, s.Versions = 1, nil })
	add(func(s *api.Super) { s.Sectors = 129 })
	add(func(s *api.Super) { s.Sectors = 4096 })
	add(func(s *api.Super) { s.Versions[0].Root = 50 })
	add(func(s *api.Super) { s.Versions[0].Root = 127 })
	add(func(s *api.Super) { s.Sectors, s.Versions[0].Root = 4096, 4095 })
	add(func(s *api.Super) { s.Versions[0].Next = 1<<24 - 1 })
	add(func(s *api.Super) { s.Versions[0].Next = 1 << 24 })
	add(func(s *api.Super) { s.Versions[0].Fixed = true })
	add(func(s *api.Super) { s.Next, s.Versions[0].ID = 3, 2 })
	add(func(s *api.Super) { s.Next, s.Versions[0].ID = api.MaxNumber, api.MaxNumber-1 })
	add(func(s *api.Super) { s.Next, s.Versions = 3, append(s.Versions, api.Version{ID: 2, Next: 1}) })
	return out
}

// mayNots are superblocks that may not be, each for one thing alone.
func mayNots() []api.Super {
	out := []api.Super{{}}
	each := func(numbers []int, change func(s *api.Super, number int)) {
		for _, number := range numbers {
			s := first()
			s.Versions = append(s.Versions, api.Version{ID: 4, Root: 60, Next: 9}, api.Version{ID: 6, Next: 9})
			s.Next = 9
			if !super.May(s) {
				panic("the superblock itself may not be")
			}
			change(&s, number)
			out = append(out, s)
		}
	}
	far := []int{math.MinInt, math.MinInt + 1, -1, 1 << 32, 1<<32 + 1, 1<<32 + 5, 1<<32 + 60, math.MaxInt}
	each(append(far, 0), func(s *api.Super, n int) { s.Gen = n })
	each(append(far, 0, 1, 6), func(s *api.Super, n int) { s.Next = n })
	each(append(far, 0, 127, 4097, 65536+128, 65535), func(s *api.Super, n int) { s.Sectors = n })
	each(append(far, 0, 1, 6, 7, 9), func(s *api.Super, n int) { s.Versions[1].ID = n })
	each(append(far, 0, 1, 4, 9, 10), func(s *api.Super, n int) { s.Versions[2].ID = n })
	each(append(far, 0, 4), func(s *api.Super, n int) { s.Versions[0].ID = n })
	each(append(far, 1, 2, 49, 128, 129, 4095, 65536+60, 65536), func(s *api.Super, n int) { s.Versions[1].Root = n })
	each(append(far, 0, 1<<24+1), func(s *api.Super, n int) { s.Versions[2].Next = n })
	each(append(far, 0), func(s *api.Super, n int) { s.Next, s.Versions = n, nil })
	each([]int{9, 10, 255, 256, 257, 256 + 8}, func(s *api.Super, n int) {
		s.Versions, s.Next = nil, 1000
		for i := range n {
			s.Versions = append(s.Versions, api.Version{ID: i + 1, Next: 1})
		}
	})
	return out
}

func TestMay(t *testing.T) {
	for _, s := range mays() {
		if !super.May(s) {
			t.Errorf("May(%v) = false", s)
		}
	}
	for _, s := range mayNots() {
		if super.May(s) {
			t.Errorf("May(%v) = true", s)
		}
	}
}

func TestMayExamples(t *testing.T) {
	s := first()
	for root, want := range map[int]bool{49: false, 50: true} {
		s.Versions[0].Root = root
		if super.May(s) != want {
			t.Errorf("Root %d: May = %v", root, !want)
		}
	}
	s = first()
	s.Versions[0].ID = 2
	if super.May(s) {
		t.Error("ID 2: May = true")
	}
}

func TestPutExample(t *testing.T) {
	out := put(t, first())
	if want := append([]byte("KIST"), 1, 0, 0, 0, 128, 0, 2, 0, 0, 0, 1, 1); !bytes.Equal(out[:16], want) {
		t.Errorf("bytes 0 to 15 are %v, want %v", out[:16], want)
	}
}

func TestPutAsTheChapterTells(t *testing.T) {
	for _, s := range mays() {
		if out := put(t, s); !bytes.Equal(out, slow(s)) {
			t.Errorf("Put(%v) = %v", s, out)
		}
	}
	chance := rand.New(rand.NewSource(10))
	for range 500 {
		s := anySuper(chance)
		if out := put(t, s); !bytes.Equal(out, slow(s)) {
			t.Fatalf("Put(%v) = %v", s, out)
		}
	}
}

func TestPutRefuses(t *testing.T) {
	for _, s := range mayNots() {
		if out, e := super.Put(s); e != api.ErrArg || out != nil {
			t.Errorf("Put(%v) = %v, %v", s, out, e)
		}
	}
}

func TestGetOfAnotherLength(t *testing.T) {
	out := append(put(t, first()), make([]byte, 256)...)
	for _, length := range []int{0, 1, 4, 15, 26, 252, 255, 257, 512} {
		getsNone(t, "another length", out[:length])
	}
	getsNone(t, "nil", nil)
}

func TestGetOfBytesThatAreNone(t *testing.T) {
	getsNone(t, "bytes 0", make([]byte, 256))
	getsNone(t, "bytes 0 with their sum", sealed(make([]byte, 252)))
	getsNone(t, "bytes 255", sealed(bytes.Repeat([]byte{255}, 252)))
	chance := rand.New(rand.NewSource(11))
	for range 500 {
		data := make([]byte, 252)
		chance.Read(data)
		copy(data, "KIST")
		getsNone(t, "any bytes", sealed(data))
	}
}

// A sector with its sum whose numbers may not be: what Put would make of them, if it made them.
func TestGetOfOneThatMayNotBe(t *testing.T) {
	fits := func(s api.Super) bool {
		ok := s.Gen>>32 == 0 && s.Sectors>>16 == 0 && s.Next>>32 == 0 && len(s.Versions) <= 21
		for _, v := range s.Versions {
			ok = ok && v.ID>>32 == 0 && v.Root>>16 == 0 && v.Next>>32 == 0
		}
		return ok
	}
	some := 0
	for _, s := range mayNots() {
		if fits(s) {
			some++
			getsNone(t, "one that may not be", slow(s))
		}
	}
	if some < 20 {
		t.Errorf("only %d of them have a sector", some)
	}
}

func TestGetOfOtherBytes(t *testing.T) {
	s := first()
	s.Versions[0].Fixed = true
	out := put(t, s)
	with := func(at int, b byte) []byte {
		data := bytes.Clone(out)
		data[at] = b
		return sealed(data)
	}
	for at, letter := range []byte("kist") {
		getsNone(t, "letters", with(at, letter))
		getsNone(t, "letters", with(at, 0))
	}
	for _, many := range []byte{0, 2, 8, 9, 10, 21, 22, 23, 128, 255} {
		getsNone(t, "how many", with(14, many))
	}
	for fixed := 2; fixed < 256; fixed++ {
		getsNone(t, "fixed", with(25, byte(fixed)))
	}
	for at := 26; at < 252; at++ {
		getsNone(t, "behind the versions", with(at, 1))
	}
	gets(t, with(25, 1), s)
	s.Versions[0].Fixed = false
	gets(t, with(25, 0), s)
}

func TestGetOfAnotherSum(t *testing.T) {
	for _, s := range []api.Super{first(), wide()} {
		out := put(t, s)
		for at := 252; at < 256; at++ {
			for bit := range 8 {
				bad := bytes.Clone(out)
				bad[at] ^= 1 << bit
				getsNone(t, "sum", bad)
			}
		}
		bad := bytes.Clone(out)
		slices.Reverse(bad[252:])
		getsNone(t, "the highest byte of the sum first", bad)
	}
}

// P10.2

func TestLoadOfNoDisk(t *testing.T) { loadsNone(t, nil, api.ErrArg) }

func TestLoadOfNewDisks(t *testing.T) {
	for _, sectors := range []int{1, 2, 3, 127, 128, 4096} {
		loadsNone(t, newDisk(t, sectors), api.ErrImage)
	}
}

// A disk that is shorter than one may say has none that counts, whatever lies there.
func TestLoadOfShortDisks(t *testing.T) {
	for _, sectors := range []int{1, 2, 127} {
		d := newDisk(t, sectors)
		for at := range min(sectors, 2) {
			lay(t, d, at, put(t, first()))
		}
		loadsNone(t, d, api.ErrImage)
	}
}

func TestLoadTellsTheGreaterGen(t *testing.T) {
	numbers := []int{1, 2, 3, 255, 256, 1 << 16, 1 << 31, api.MaxNumber - 1, api.MaxNumber}
	for _, zero := range numbers {
		for _, one := range numbers {
			d := newDisk(t, 128)
			lay(t, d, 0, put(t, of(zero, 7)))
			loads(t, d, of(zero, 7))
			lay(t, d, 1, put(t, of(one, 8)))
			if one > zero {
				loads(t, d, of(one, 8))
			} else {
				loads(t, d, of(zero, 7))
			}
		}
	}
}

func TestLoadOfSector1Alone(t *testing.T) {
	d := newDisk(t, 128)
	lay(t, d, 1, put(t, of(6, 7)))
	loads(t, d, of(6, 7))
	lay(t, d, 0, put(t, of(9, 9)))
	loads(t, d, of(9, 9))
}

func TestLoadPassesOverWhatIsNone(t *testing.T) {
	for at := range 2 {
		other := 1 - at
		d := newDisk(t, 128)
		lay(t, d, at, put(t, of(5, 7)))
		bad := slow(of(9, 9))
		bad[255] ^= 1
		lay(t, d, other, bad)
		loads(t, d, of(5, 7))
		odd := of(9, 9)
		odd.Versions[0].Root = 49
		lay(t, d, other, slow(odd))
		loads(t, d, of(5, 7))
	}
}

func TestLoadPassesOverAnotherSize(t *testing.T) {
	for _, sectors := range []int{128, 129, 200, 4096} {
		for _, other := range []int{128, 129, 200, 4096} {
			for at := range 2 {
				d := newDisk(t, sectors)
				mine, theirs := of(5, 7), of(9, 9)
				mine.Sectors, theirs.Sectors = sectors, other
				lay(t, d, 1-at, put(t, theirs))
				if other == sectors {
					loads(t, d, theirs)
				} else {
					loadsNone(t, d, api.ErrImage)
				}
				lay(t, d, at, put(t, mine))
				if other == sectors {
					loads(t, d, theirs)
				} else {
					loads(t, d, mine)
				}
			}
		}
	}
}

// Only the sectors 0 and 1 hold superblocks.
func TestLoadLooksNowhereElse(t *testing.T) {
	d := newDisk(t, 128)
	for at := 2; at < 128; at++ {
		lay(t, d, at, put(t, of(9, 9)))
	}
	loadsNone(t, d, api.ErrImage)
	lay(t, d, 0, put(t, of(5, 7)))
	loads(t, d, of(5, 7))
}

// What a sector has counts, flushed or not.
func TestLoadOfAVersion(t *testing.T) {
	d := newDisk(t, 128)
	if e := d.Write(1, put(t, of(5, 7))); e != api.OK {
		t.Fatal(e)
	}
	loads(t, d, of(5, 7))
	if !slices.Equal(d.Dirty(), []int{1}) {
		t.Errorf("behind Load %v have versions", d.Dirty())
	}
}

func TestLoadWritesNothing(t *testing.T) {
	d := newDisk(t, 128)
	lay(t, d, 0, put(t, of(6, 7)))
	if e := d.Cut(2); e != api.OK {
		t.Fatal(e)
	}
	for range 5 {
		loads(t, d, of(6, 7))
	}
	save(t, d, of(7, 8)) // with the two that the cut leaves
	d.Power(nil)
	loads(t, d, of(7, 8))
}

// P10.3

func TestSaveOfNoDisk(t *testing.T) {
	if e := super.Save(nil, first()); e != api.ErrArg {
		t.Errorf("Save(nil) = %v", e)
	}
	if e := super.Save(nil, api.Super{}); e != api.ErrArg {
		t.Errorf("Save(nil) of none = %v", e)
	}
}

// refused asks for a Save that is refused, and whether it left all as it was.
func refused(t *testing.T, sectors int, s api.Super) {
	t.Helper()
	d := newDisk(t, sectors)
	if e := d.Write(0, bytes.Repeat([]byte{7}, 256)); e != api.OK {
		t.Fatal(e)
	}
	if e := super.Save(d, s); e != api.ErrArg {
		t.Errorf("Save(%v) on %d sectors = %v", s, sectors, e)
	}
	has(t, d, 0, bytes.Repeat([]byte{7}, 256))
	if !slices.Equal(d.Dirty(), []int{0}) {
		t.Errorf("Save(%v) was refused, and left %v with versions", s, d.Dirty())
	}
	if sectors > 1 {
		has(t, d, 1, make([]byte, 256))
	}
}

func TestSaveRefuses(t *testing.T) {
	for _, s := range mayNots() {
		refused(t, 128, s)
		if s.Sectors >= 1 && s.Sectors <= 4096 {
			refused(t, s.Sectors, s)
		}
	}
	for _, sectors := range []int{1, 2, 127, 129, 4096} {
		refused(t, sectors, first())
		short := first()
		short.Sectors = sectors
		if sectors < 128 {
			refused(t, sectors, short)
		}
	}
}

func TestSaveWritesByTheGen(t *testing.T) {
	for _, gen := range []int{1, 2, 3, 4, 255, 256, 1 << 31, api.MaxNumber - 1, api.MaxNumber} {
		for _, sectors := range []int{128, 200, 4096} {
			d := newDisk(t, sectors)
			s := of(gen, 7)
			s.Sectors = sectors
			save(t, d, s)
			has(t, d, gen%2, slow(s))
			for at := range sectors {
				if at != gen%2 {
					has(t, d, at, make([]byte, 256))
				}
			}
		}
	}
}

func TestSaveFlushes(t *testing.T) {
	d := newDisk(t, 128)
	mark := bytes.Repeat([]byte{7}, 256)
	if e := d.Write(60, mark); e != api.OK {
		t.Fatal(e)
	}
	save(t, d, first())
	if len(d.Dirty()) != 0 {
		t.Errorf("behind Save %v have versions", d.Dirty())
	}
	d.Power(nil)
	loads(t, d, first())
	has(t, d, 60, mark)
}

// A Save is one write and one flush: with those two left it is done, with fewer it is not.
func TestSaveUnderACut(t *testing.T) {
	for left := range 4 {
		d := newDisk(t, 128)
		save(t, d, of(1, 7))
		if e := d.Cut(left); e != api.OK {
			t.Fatal(e)
		}
		save(t, d, of(2, 8))
		d.Power(nil)
		if left < 2 {
			loads(t, d, of(1, 7))
		} else {
			loads(t, d, of(2, 8))
		}
	}
}

// Nor does it take more than those two from what the cut leaves.
func TestSaveTakesNoMore(t *testing.T) {
	d := newDisk(t, 128)
	if e := d.Cut(3); e != api.OK {
		t.Fatal(e)
	}
	save(t, d, first())
	mark := bytes.Repeat([]byte{7}, 256)
	if e := d.Write(60, mark); e != api.OK {
		t.Fatal(e)
	}
	has(t, d, 60, mark)
}

// P10.4

func TestGetOfPut(t *testing.T) {
	for _, s := range mays() {
		gets(t, put(t, s), s)
	}
	chance := rand.New(rand.NewSource(104))
	for range 500 {
		s := anySuper(chance)
		gets(t, put(t, s), s)
	}
}

// P10.5

func TestExampleOfTwoSaves(t *testing.T) {
	d := newDisk(t, 128)
	loadsNone(t, d, api.ErrImage)
	save(t, d, first())
	save(t, d, of(2, 3))
	loads(t, d, of(2, 3))
	rot(t, d, 77)
	loads(t, d, first())
}

// saved is one of that generation, for the widest disk.
func saved(chance *rand.Rand, gen int) api.Super {
	s := anySuper(chance)
	s.Gen, s.Sectors = gen, 4096
	return s
}

func TestTheLastThatWasSaved(t *testing.T) {
	chance := rand.New(rand.NewSource(105))
	for _, from := range []int{1, 2, 254, 65535, 1<<24 - 3, 1<<31 - 3, api.MaxNumber - 19} {
		d := newDisk(t, 4096)
		for gen := from; gen < from+20; gen++ {
			s := saved(chance, gen)
			save(t, d, s)
			loads(t, d, s)
			d.Power([]int{chance.Intn(9), chance.Intn(9)})
			loads(t, d, s)
		}
	}
}

// The power goes within a Save: behind none, one or both of its write and its flush, whatever persists.
func TestPowerWithinASave(t *testing.T) {
	chance := rand.New(rand.NewSource(106))
	for left := range 3 {
		for pick := range 2 {
			d := newDisk(t, 4096)
			last := saved(chance, 1)
			save(t, d, last)
			for gen := 2; gen < 12; gen++ {
				s := saved(chance, last.Gen+1)
				if e := d.Cut(left); e != api.OK {
					t.Fatal(e)
				}
				save(t, d, s)
				d.Power([]int{pick})
				if left == 2 || left == 1 && pick == 1 {
					last = s
				}
				loads(t, d, last)
			}
		}
	}
}

// The same with a write that was not flushed, and one more with the same Gen behind it.
func TestPowerAheadOfTheFlush(t *testing.T) {
	for pick, want := range []api.Super{of(6, 3), of(7, 8), of(7, 9)} {
		d := newDisk(t, 128)
		save(t, d, of(5, 2))
		save(t, d, of(6, 3))
		for _, s := range []api.Super{of(7, 8), of(7, 9)} {
			if e := d.Write(1, put(t, s)); e != api.OK {
				t.Fatal(e)
			}
		}
		d.Power([]int{pick})
		loads(t, d, want)
	}
}

func TestRot(t *testing.T) {
	for _, gen := range []int{2, 3} {
		for bit := range 2048 {
			d := newDisk(t, 128)
			save(t, d, of(gen-1, 7))
			save(t, d, of(gen, 8))
			rot(t, d, 2048*((gen-1)%2)+bit) // of the one ahead, which no one asks for
			loads(t, d, of(gen, 8))
			rot(t, d, 2048*((gen-1)%2)+bit)
			rot(t, d, 2048*(gen%2)+bit)
			loads(t, d, of(gen-1, 7))
			rot(t, d, 2048*((gen-1)%2)+bit)
			loadsNone(t, d, api.ErrImage)
		}
	}
}

// What rots in a sector that was written and not flushed is none either, whichever persists.
func TestRotAheadOfTheFlush(t *testing.T) {
	for pick := range 2 {
		d := newDisk(t, 128)
		save(t, d, of(5, 7))
		save(t, d, of(6, 8))
		if e := d.Write(1, put(t, of(7, 9))); e != api.OK {
			t.Fatal(e)
		}
		rot(t, d, 2048+40)
		loads(t, d, of(6, 8))
		d.Power([]int{pick})
		loads(t, d, of(6, 8))
	}
}

// R4

func TestNilIsEmpty(t *testing.T) {
	none, empty := first(), first()
	none.Versions, empty.Versions = nil, []api.Version{}
	if !super.May(none) || !super.May(empty) {
		t.Error("without versions it may not be")
	}
	if !bytes.Equal(put(t, none), put(t, empty)) {
		t.Error("nil and empty versions have unlike sectors")
	}
	gets(t, put(t, none), empty)
	d := newDisk(t, 128)
	save(t, d, empty)
	loads(t, d, none)
}

// Versions behind those that are handed in are spare room: they are not read, not changed and not kept.
func TestWhatIsHandedInStays(t *testing.T) {
	room := make([]api.Version, 12)
	for i := range room {
		room[i] = api.Version{ID: 12 - i, Root: 3, Next: -1}
	}
	room[0] = api.Version{ID: 1, Root: 60, Next: 5, Fixed: true}
	was := slices.Clone(room)
	s := api.Super{Gen: 1, Sectors: 128, Next: 2, Versions: room[:1]}
	lone := api.Super{Gen: 1, Sectors: 128, Next: 2, Versions: slices.Clone(room[:1])}
	d := newDisk(t, 128)
	if !super.May(s) || !bytes.Equal(put(t, s), slow(lone)) {
		t.Error("the spare room was read")
	}
	save(t, d, s)
	if !slices.Equal(room, was) {
		t.Errorf("versions were changed to %v", room)
	}
	clear(room)
	loads(t, d, lone)
}

func TestSectorsThatAreHandedInStay(t *testing.T) {
	room := append(put(t, wide()), bytes.Repeat([]byte{77}, 256)...)
	was := bytes.Clone(room)
	got, ok := super.Get(room[:256])
	if !ok || !bytes.Equal(room, was) {
		t.Errorf("Get changed what it was handed, or told %v", ok)
	}
	clear(room)
	if !same(got, wide()) {
		t.Errorf("the superblock shares memory with the sector: %v", got)
	}
}

func TestAnswersAreNewMemory(t *testing.T) {
	s := wide()
	sector, other := put(t, s), put(t, s)
	clear(sector[:cap(sector)])
	gets(t, other, s)
	got, _ := super.Get(other)
	clear(got.Versions[:cap(got.Versions)])
	gets(t, other, s)
	d := newDisk(t, 4096)
	save(t, d, s)
	loaded, e := super.Load(d)
	if e != api.OK {
		t.Fatal(e)
	}
	clear(loaded.Versions[:cap(loaded.Versions)])
	loads(t, d, s)
	if !same(s, wide()) {
		t.Errorf("what was saved is now %v", s)
	}
}
