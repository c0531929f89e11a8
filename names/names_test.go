package names_test

import (
	"math/rand"
	"slices"
	"strings"
	"testing"

	"kist/api"
	"kist/names"
)

// slowName is what the chapter calls a name, told once more, byte by byte.
func slowName(s string) bool {
	for i := 0; i < len(s); i++ {
		if s[i] < 33 || s[i] > 126 || s[i] == '/' {
			return false
		}
	}
	return len(s) >= 1 && len(s) <= 16 && s != "." && s != ".."
}

// slowSplit is what the chapter calls a path, told once more: it goes from byte to byte, and each / begins a name.
func slowSplit(path string) ([]string, bool) {
	if path == "/" {
		return nil, true
	}
	var l []string
	for i := 0; i < len(path); i++ {
		if path[i] == '/' {
			l = append(l, "")
		} else if len(l) == 0 {
			return nil, false
		} else {
			l[len(l)-1] += path[i : i+1]
		}
	}
	for _, s := range l {
		if !slowName(s) {
			return nil, false
		}
	}
	return l, len(l) >= 1 && len(l) <= 6
}

// slowUnder is P17.2 told once more: behind the first path the other one ends, or a further name begins.
func slowUnder(path, other string) bool {
	_, one := slowSplit(path)
	_, two := slowSplit(other)
	return one && two && (path == "/" || path == other || strings.HasPrefix(other, path+"/"))
}

// text is up to size bytes by chance, out of those given.
func text(chance *rand.Rand, size int, of string) string {
	out := make([]byte, chance.Intn(size+1))
	for i := range out {
		out[i] = of[chance.Intn(len(of))]
	}
	return string(out)
}

// path is up to 7 short names by chance, so that one is often under another; now and then one is no name.
func path(chance *rand.Rand) string {
	right, wrong := []string{"a", "b", "ab", "a.", "..."}, []string{".", "..", "", "a b"}
	out := ""
	for range chance.Intn(8) {
		name := right[chance.Intn(len(right))]
		if chance.Intn(20) == 0 {
			name = wrong[chance.Intn(len(wrong))]
		}
		out += "/" + name
	}
	if out == "" && chance.Intn(2) == 0 {
		return "/"
	}
	return out
}

// P17.1: each of the 256 bytes, alone, first, in the middle and last.
func TestBytesOfAName(t *testing.T) {
	for b := range 256 {
		one := string([]byte{byte(b)})
		want := b >= 33 && b <= 126 && b != '/'
		for _, s := range []string{"a" + one, one + "a", "a" + one + "a", one + one + one, "123456789012345" + one} {
			if names.Name(s) != want {
				t.Errorf("Name(%q) is %v", s, !want)
			}
		}
		if alone := want && one != "."; names.Name(one) != alone {
			t.Errorf("Name(%q) is %v", one, !alone)
		}
	}
}

// P17.1: a text of more than one byte a rune, or of none, is no name, even where a rune's lowest bits are those of a letter.
func TestRunesThatAreNoBytes(t *testing.T) {
	for _, s := range []string{"é", "\u0161", "\u2061", "\U00010041", "\xff", "\xc1\xa1", "a\x80", "\xe2\x82", "\ufffd", "a\u0301", "\x7f", "\x00"} {
		if names.Name(s) || names.Name("a"+s) || names.Name(s+"a") {
			t.Errorf("%q is a name", s)
		}
		if l, e := names.Split("/" + s); e != api.ErrPath || l != nil {
			t.Errorf("Split(/%q): %q %v", s, l, e)
		}
		if p, e := names.Join([]string{s}); e != api.ErrPath || p != "" {
			t.Errorf("Join(%q): %q %v", s, p, e)
		}
	}
}

// P17.1: 1 to 16 bytes.
func TestLengthsOfAName(t *testing.T) {
	for size := range 100 {
		s := strings.Repeat("n", size)
		if want := size >= 1 && size <= 16; names.Name(s) != want {
			t.Errorf("a text of %d bytes is a name: %v", size, !want)
		}
	}
	if names.Name(strings.Repeat("n", 1<<20)) {
		t.Error("a long text is a name")
	}
}

// P17.1: . and .. are none; what only looks like them is.
func TestDots(t *testing.T) {
	for s, want := range map[string]bool{
		".": false, "..": false, "...": true, "....": true, ".a": true, "a.": true, "..a": true, "a..": true, ".. ": false, "./": false,
		strings.Repeat(".", 16): true, strings.Repeat(".", 17): false,
	} {
		if names.Name(s) != want {
			t.Errorf("Name(%q) is %v", s, !want)
		}
	}
}

// P17.1, P17.2: the table of the chapter.
func TestExamples(t *testing.T) {
	if l, e := names.Split("/"); e != api.OK || len(l) != 0 {
		t.Error("/", l, e)
	}
	if l, e := names.Split("/a/b"); e != api.OK || !slices.Equal(l, []string{"a", "b"}) {
		t.Error("/a/b", l, e)
	}
	for _, p := range []string{"", "a", "/a/", "//", "/a/../b", "/1/2/3/4/5/6/7"} {
		if l, e := names.Split(p); e != api.ErrPath || l != nil {
			t.Error(p, l, e)
		}
	}
	for pair, want := range map[[2]string]bool{{"/a", "/a/b"}: true, {"/a", "/ab"}: false, {"/", "/a"}: true, {"/a", "/a"}: true} {
		if names.Under(pair[0], pair[1]) != want {
			t.Error(pair, !want)
		}
	}
}

// P17.1: what is no path, at each end and in the middle.
func TestWrongPaths(t *testing.T) {
	long := "/" + strings.Repeat("n", 17)
	for _, p := range []string{
		"", "a", "a/", "a/b", "//", "///", "//a", "/a//b", "/a/", "/a//", "/.", "/..", "/./a", "/a/.", "/a/../b", "/a b", "/a/b ", " /a", "/a\n", "/\x00",
		"/1/2/3/4/5/6/7", "/1/2/3/4/5/6/", "/1/2/3/4/5/6/7/8/9", "/1/2/3/4/5//", "/1/2/3/4/5/..",
		long, long + "/a", "/a" + long, "/1/2/3/4/5" + long, "\\a", ".", "..", "./a",
		strings.Repeat("/", 1<<16), strings.Repeat("/a", 1<<16), "/" + strings.Repeat("a", 1<<16),
	} {
		if l, e := names.Split(p); e != api.ErrPath || l != nil {
			t.Errorf("Split(%.40q): %.40q %v", p, l, e)
		}
		if names.Under(p, p) || names.Under("/", p) || names.Under(p, "/a") {
			t.Errorf("%.40q leads somewhere", p)
		}
	}
}

// P17.1: up to 6 names, of up to 16 bytes each.
func TestLongestPath(t *testing.T) {
	var l []string
	for size := range 9 {
		want := "/" + strings.Join(l, "/")
		p, e := names.Join(l)
		got, f := names.Split(want)
		if size <= 6 {
			if e != api.OK || p != want || f != api.OK || !slices.Equal(got, l) {
				t.Error(size, p, e, got, f)
			}
		} else if e != api.ErrPath || p != "" || f != api.ErrPath || got != nil {
			t.Error(size, p, e, got, f)
		}
		l = append(l, strings.Repeat("~", 16))
	}
}

// P17.1: one that is no name, at every place.
func TestJoinOfNoNames(t *testing.T) {
	for _, wrong := range []string{"", ".", "..", "/", "a/b", "/a", "a/", "a b", "é", "\xff", strings.Repeat("n", 17)} {
		for size := 1; size <= 7; size++ {
			for at := range size {
				l := slices.Repeat([]string{"a"}, size)
				l[at] = wrong
				if p, e := names.Join(l); e != api.ErrPath || p != "" {
					t.Errorf("Join(%q): %q %v", l, p, e)
				}
			}
		}
	}
}

// P17.1, R4: of no names, nil or empty, the path is /.
func TestJoinOfNone(t *testing.T) {
	for _, l := range [][]string{nil, {}, make([]string, 0, 4)} {
		if p, e := names.Join(l); e != api.OK || p != "/" {
			t.Error(l, p, e)
		}
	}
}

// P17.2: by names, not by bytes; all of them, too; both have to be paths.
func TestUnder(t *testing.T) {
	for _, x := range []struct {
		path, other string
		want        bool
	}{
		{"/", "/", true}, {"/", "/a/b/c/d/e/f", true}, {"/a", "/", false},
		{"/a/b", "/a", false}, {"/a/b", "/a/b", true}, {"/a/b", "/a/b/c", true}, {"/a/b", "/a/bc", false}, {"/a/b", "/b/a", false},
		{"/a/b", "/a/c/b", false}, {"/b", "/a/b", false}, {"/ab", "/a/b", false}, {"/a", "/A", false},
		{"/a/b/c/d/e/f", "/a/b/c/d/e/f", true}, {"/a/b/c/d/e", "/a/b/c/d/e/f", true}, {"/a/b/c/d/e/f", "/a/b/c/d/e/g", false},
		{"a", "a", false}, {"", "", false}, {"", "/a", false}, {"/a", "/a/", false}, {"/a/", "/a/b", false}, {"/a", "/a/..", false}, {"/a", "/a//b", false},
		{"/", "", false}, {"/", "a", false}, {"/", "//", false}, {"/", "/1/2/3/4/5/6/7", false}, {"/1/2/3/4/5/6", "/1/2/3/4/5/6/7", false},
		{"/1/2/3/4/5/6/7", "/1/2/3/4/5/6/7", false}, {"/..", "/..", false}, {"//", "/", false},
	} {
		if names.Under(x.path, x.other) != x.want {
			t.Errorf("Under(%q, %q) is %v", x.path, x.other, !x.want)
		}
	}
}

// P17.1, P17.2, P17.3: by chance, held against the chapter's words told once more.
func TestByChance(t *testing.T) {
	chance := rand.New(rand.NewSource(17))
	paths, under := 0, 0
	for range 200000 {
		p := path(chance)
		if chance.Intn(3) == 0 {
			p = text(chance, 9, "/ab.")
		}
		l, e := names.Split(p)
		want, ok := slowSplit(p)
		if ok != (e == api.OK) || !ok && (e != api.ErrPath || l != nil) || ok && !slices.Equal(l, want) {
			t.Fatalf("Split(%q): %q %v", p, l, e)
		}
		if ok {
			paths++
			if again, e := names.Join(l); e != api.OK || again != p {
				t.Fatalf("Join(%q): %q %v", l, again, e)
			}
		}
		q := path(chance)
		if names.Under(p, q) != slowUnder(p, q) {
			t.Fatalf("Under(%q, %q) is %v", p, q, !slowUnder(p, q))
		}
		if slowUnder(p, q) {
			under++
		}
	}
	if paths < 10000 || under < 1000 {
		t.Error("too few: ", paths, under)
	}
}

// P17.1, P17.3: names by chance; Split of Join is the names.
func TestNamesByChance(t *testing.T) {
	chance := rand.New(rand.NewSource(71))
	joined := 0
	for range 100000 {
		l := make([]string, chance.Intn(8))
		ok := len(l) <= 6
		for i := range l {
			l[i] = text(chance, 17, "abcdefghijklmnopqrstuvwxyz0123456789!~-_AZ")
			if chance.Intn(20) == 0 {
				l[i] = text(chance, 4, "./a \x7f\x80é")
			}
			if names.Name(l[i]) != slowName(l[i]) {
				t.Fatalf("Name(%q) is %v", l[i], !slowName(l[i]))
			}
			ok = ok && slowName(l[i])
		}
		p, e := names.Join(l)
		if ok != (e == api.OK) || !ok && (e != api.ErrPath || p != "") {
			t.Fatalf("Join(%q): %q %v", l, p, e)
		}
		if !ok {
			continue
		}
		joined++
		if again, e := names.Split(p); e != api.OK || !slices.Equal(again, l) {
			t.Fatalf("Split(%q): %q %v", p, again, e)
		}
	}
	if joined < 10000 {
		t.Error("too few: ", joined)
	}
}

// R4: Join changes no list, nor its spare room; what Split answers is a new list each time.
func TestMemory(t *testing.T) {
	all := []string{"a", "b", "spare", "room"}
	l := all[:2]
	if p, e := names.Join(l); e != api.OK || p != "/a/b" {
		t.Error(p, e)
	}
	if !slices.Equal(all, []string{"a", "b", "spare", "room"}) {
		t.Error("Join changed its list", all)
	}
	p, _ := names.Join(l)
	l[0] = "x"
	if p != "/a/b" {
		t.Error("Join kept its list", p)
	}
	one, _ := names.Split("/a/b")
	two, _ := names.Split("/a/b")
	one[0] = "x"
	_ = append(one[:1], "y")
	if !slices.Equal(two, []string{"a", "b"}) {
		t.Error("two answers of Split share their memory", two)
	}
	if again, e := names.Split("/a/b"); e != api.OK || !slices.Equal(again, []string{"a", "b"}) {
		t.Error("Split kept its answer", again, e)
	}
}
