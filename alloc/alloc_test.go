package alloc_test

import (
	"math"
	"slices"
	"testing"

	"kist/alloc"
	"kist/api"
)

func newMap(t *testing.T, least, end int) *alloc.Map {
	t.Helper()
	m, e := alloc.New(least, end)
	if e != api.OK || m == nil {
		t.Fatalf("New(%d, %d) = %v, %v", least, end, m, e)
	}
	return m
}

func takes(t *testing.T, m *alloc.Map, want ...int) {
	t.Helper()
	for _, n := range want {
		if got, ok := m.Take(); got != n || !ok {
			t.Errorf("Take() = %d, %v, want %d", got, ok, n)
		}
	}
}

func takesNone(t *testing.T, m *alloc.Map) {
	t.Helper()
	if got, ok := m.Take(); got != 0 || ok {
		t.Errorf("Take() = %d, %v, want none", got, ok)
	}
}

// done asks a call for each of the numbers, and wants it to be done.
func done(t *testing.T, what string, call func(int) bool, numbers ...int) {
	t.Helper()
	for _, n := range numbers {
		if !call(n) {
			t.Errorf("%s(%d) = false", what, n)
		}
	}
}

func refused(t *testing.T, what string, call func(int) bool, numbers ...int) {
	t.Helper()
	for _, n := range numbers {
		if call(n) {
			t.Errorf("%s(%d) = true", what, n)
		}
	}
}

func tells(t *testing.T, m *alloc.Map, free, dropped int, runs ...api.Run) {
	t.Helper()
	if got := m.Free(); got != free {
		t.Errorf("Free() = %d, want %d", got, free)
	}
	if got := m.Dropped(); got != dropped {
		t.Errorf("Dropped() = %d, want %d", got, dropped)
	}
	if got := m.Runs(); !slices.Equal(got, runs) {
		t.Errorf("Runs() = %v, want %v", got, runs)
	}
}

// some is a map of 50 to 59 in which 52 and 53 are taken, 55 and 56 given back, and all others free.
func some(t *testing.T) *alloc.Map {
	t.Helper()
	m := newMap(t, 50, 60)
	done(t, "Mark", m.Mark, 52, 53, 55, 56)
	done(t, "Drop", m.Drop, 55, 56)
	return m
}

// someRuns is the free ones of some.
func someRuns() []api.Run {
	return []api.Run{{First: 50, Len: 2}, {First: 54, Len: 1}, {First: 57, Len: 3}}
}

// strange is numbers that a map of 50 to 59 does not have.
func strange() []int {
	return []int{math.MinInt, -60, -50, -1, 0, 1, 9, 49, 60, 61, 110, 65535, 65536, math.MaxInt - 49, math.MaxInt}
}

// P12.1

func TestNewRefuses(t *testing.T) {
	for _, l := range [][2]int{
		{-1, 4}, {-1, -1}, {-1, 0}, {-5, -9}, {math.MinInt, 4}, {math.MinInt, math.MaxInt}, {math.MinInt, math.MinInt},
		{0, 65537}, {65537, 65537}, {65536, 65537}, {0, math.MaxInt}, {math.MaxInt, math.MaxInt},
		{1, 0}, {5, 4}, {65536, 65535}, {4, -4}, {math.MaxInt, 0}, {0, math.MinInt},
	} {
		if m, e := alloc.New(l[0], l[1]); e != api.ErrArg || m != nil {
			t.Errorf("New(%d, %d) = %v, %v", l[0], l[1], m, e)
		}
	}
}

func TestNewHasAllFree(t *testing.T) {
	for _, l := range [][2]int{{0, 1}, {50, 54}, {50, 4096}, {0, 65536}, {65535, 65536}, {7, 8}} {
		m, many := newMap(t, l[0], l[1]), l[1]-l[0]
		tells(t, m, many, 0, api.Run{First: l[0], Len: many})
		for n := l[0] - 2; n < l[1]+2; n++ {
			if m.Taken(n) {
				t.Fatalf("of %v %d is taken", l, n)
			}
		}
		done(t, "Reserve", m.Reserve, many) // else some were set aside
	}
}

func TestNewOfNoNumbers(t *testing.T) {
	for _, n := range []int{0, 1, 50, 65535, 65536} {
		m := newMap(t, n, n)
		takesNone(t, m)
		refused(t, "Mark", m.Mark, 0, n-1, n, n+1)
		refused(t, "Back", m.Back, 0, n-1, n, n+1)
		refused(t, "Drop", m.Drop, 0, n-1, n, n+1)
		refused(t, "Taken", m.Taken, 0, n-1, n, n+1)
		done(t, "Reserve", m.Reserve, 0)
		refused(t, "Reserve", m.Reserve, 1)
		m.Settle()
		m.Release()
		tells(t, m, 0, 0)
	}
}

// P12.2

func TestMark(t *testing.T) {
	m := some(t)
	refused(t, "Mark", m.Mark, 52, 53, 55, 56)
	refused(t, "Mark", m.Mark, strange()...)
	tells(t, m, 6, 2, someRuns()...)
	done(t, "Mark", m.Mark, 59, 50, 58)
	tells(t, m, 3, 2, api.Run{First: 51, Len: 1}, api.Run{First: 54, Len: 1}, api.Run{First: 57, Len: 1})
	done(t, "Taken", m.Taken, 59, 50, 58)
	refused(t, "Mark", m.Mark, 59, 50, 58)
	takes(t, m, 51, 54, 57)
	takesNone(t, m)
}

// Whichever number is marked: the others come out by rising numbers.
func TestMarkOfEach(t *testing.T) {
	for n := 50; n < 81; n++ {
		for other := 50; other < 81; other++ {
			m := newMap(t, 50, 81)
			done(t, "Mark", m.Mark, n)
			if other != n {
				done(t, "Mark", m.Mark, other)
			}
			for want := 50; want < 81; want++ {
				if want != n && want != other {
					takes(t, m, want)
				}
			}
			takesNone(t, m)
		}
	}
}

func TestBack(t *testing.T) {
	m := some(t)
	refused(t, "Back", m.Back, 50, 51, 54, 59, 55, 56)
	refused(t, "Back", m.Back, strange()...)
	tells(t, m, 6, 2, someRuns()...)
	done(t, "Back", m.Back, 53)
	refused(t, "Taken", m.Taken, 53)
	refused(t, "Back", m.Back, 53)
	tells(t, m, 7, 2, api.Run{First: 50, Len: 2}, api.Run{First: 53, Len: 2}, api.Run{First: 57, Len: 3})
	takes(t, m, 50, 51, 53, 54, 57)
}

func TestDrop(t *testing.T) {
	m := some(t)
	refused(t, "Drop", m.Drop, 50, 51, 54, 59, 55, 56)
	refused(t, "Drop", m.Drop, strange()...)
	tells(t, m, 6, 2, someRuns()...)
	done(t, "Drop", m.Drop, 53)
	done(t, "Taken", m.Taken, 53)
	refused(t, "Drop", m.Drop, 53)
	refused(t, "Back", m.Back, 53)
	refused(t, "Mark", m.Mark, 53)
	tells(t, m, 6, 3, someRuns()...)
}

func TestSettle(t *testing.T) {
	m := some(t)
	m.Settle()
	tells(t, m, 8, 0, api.Run{First: 50, Len: 2}, api.Run{First: 54, Len: 6})
	refused(t, "Taken", m.Taken, 55, 56)
	done(t, "Taken", m.Taken, 52, 53) // what is taken stays so
	m.Settle()
	tells(t, m, 8, 0, api.Run{First: 50, Len: 2}, api.Run{First: 54, Len: 6})
	done(t, "Mark", m.Mark, 55)
	m.Settle() // 55 was given back ahead of the last one, and is taken now
	done(t, "Taken", m.Taken, 55)
	done(t, "Drop", m.Drop, 55)
	tells(t, m, 7, 1, api.Run{First: 50, Len: 2}, api.Run{First: 54, Len: 1}, api.Run{First: 56, Len: 4})
	m.Settle()
	takes(t, m, 50, 51, 54, 55, 56, 57, 58, 59)
}

// Drops in any order are free in the order of their numbers.
func TestTakeBehindSettleAndBack(t *testing.T) {
	m := newMap(t, 0, 8)
	takes(t, m, 0, 1, 2, 3, 4, 5, 6, 7)
	done(t, "Drop", m.Drop, 6, 1, 3)
	done(t, "Back", m.Back, 7, 2)
	m.Settle()
	takes(t, m, 1, 2, 3, 6, 7)
	takesNone(t, m)
}

// P12.3

func TestTakeIsTheLeast(t *testing.T) {
	m := newMap(t, 50, 55)
	takes(t, m, 50, 51, 52)
	done(t, "Taken", m.Taken, 50, 51, 52)
	refused(t, "Taken", m.Taken, 53, 54)
	done(t, "Back", m.Back, 51)
	takes(t, m, 51, 53)
	done(t, "Back", m.Back, 53, 50)
	takes(t, m, 50, 53, 54)
	takesNone(t, m)
	takesNone(t, m)
	tells(t, m, 0, 0)
	done(t, "Back", m.Back, 52)
	takes(t, m, 52)
}

// The number 0 is one as others are: only the bool tells it from none.
func TestTakeOfZero(t *testing.T) {
	m := newMap(t, 0, 1)
	takes(t, m, 0)
	takesNone(t, m)
	done(t, "Drop", m.Drop, 0)
	takesNone(t, m)
	m.Settle()
	takes(t, m, 0)
}

func TestReserve(t *testing.T) {
	m := some(t) // 6 are free
	refused(t, "Reserve", m.Reserve, -1, 7, 10, math.MinInt, math.MaxInt)
	tells(t, m, 6, 2, someRuns()...)
	done(t, "Reserve", m.Reserve, 0)
	tells(t, m, 6, 2, someRuns()...)
	done(t, "Reserve", m.Reserve, 4)
	tells(t, m, 2, 2, someRuns()...)
	refused(t, "Reserve", m.Reserve, 3, 4, 6, -1, -4, math.MaxInt, math.MinInt)
	tells(t, m, 2, 2, someRuns()...)
	done(t, "Reserve", m.Reserve, 1, 1) // so many more, not so many
	tells(t, m, 0, 2, someRuns()...)
	done(t, "Reserve", m.Reserve, 0)
	refused(t, "Reserve", m.Reserve, 1)
	m.Release()
	tells(t, m, 6, 2, someRuns()...)
	done(t, "Reserve", m.Reserve, 6)
	tells(t, m, 0, 2, someRuns()...)
}

func TestReleaseOfNone(t *testing.T) {
	m := some(t)
	m.Release()
	m.Release()
	tells(t, m, 6, 2, someRuns()...)
}

// Take comes first of what is set aside, even where others are free.
func TestTakeOfWhatIsSetAside(t *testing.T) {
	m := newMap(t, 0, 6)
	done(t, "Reserve", m.Reserve, 2)
	tells(t, m, 4, 0, api.Run{First: 0, Len: 6})
	takes(t, m, 0)
	tells(t, m, 4, 0, api.Run{First: 1, Len: 5})
	takes(t, m, 1)
	tells(t, m, 4, 0, api.Run{First: 2, Len: 4})
	takes(t, m, 2) // none is set aside any more
	tells(t, m, 3, 0, api.Run{First: 3, Len: 3})
	done(t, "Reserve", m.Reserve, 3)
	takes(t, m, 3, 4, 5)
	takesNone(t, m)
	tells(t, m, 0, 0)
}

func TestMarkTakesNothingThatIsSetAside(t *testing.T) {
	m := newMap(t, 0, 4)
	done(t, "Reserve", m.Reserve, 3)
	done(t, "Mark", m.Mark, 2)
	refused(t, "Mark", m.Mark, 0, 1, 3)
	tells(t, m, 0, 0, api.Run{First: 0, Len: 2}, api.Run{First: 3, Len: 1})
	refused(t, "Taken", m.Taken, 0, 1, 3)
	done(t, "Back", m.Back, 2)
	tells(t, m, 1, 0, api.Run{First: 0, Len: 4})
	done(t, "Mark", m.Mark, 3)
	takes(t, m, 0)
	refused(t, "Mark", m.Mark, 1)
	m.Release()
	done(t, "Mark", m.Mark, 1)
	tells(t, m, 1, 0, api.Run{First: 2, Len: 1})
}

// What comes back is not set aside by it.
func TestBackAndSettleSetNothingAside(t *testing.T) {
	m := newMap(t, 0, 4)
	takes(t, m, 0, 1)
	done(t, "Reserve", m.Reserve, 2)
	done(t, "Back", m.Back, 0)
	tells(t, m, 1, 0, api.Run{First: 0, Len: 1}, api.Run{First: 2, Len: 2})
	done(t, "Drop", m.Drop, 1)
	tells(t, m, 1, 1, api.Run{First: 0, Len: 1}, api.Run{First: 2, Len: 2})
	m.Settle()
	tells(t, m, 2, 0, api.Run{First: 0, Len: 4})
	m.Release()
	tells(t, m, 4, 0, api.Run{First: 0, Len: 4})
}

func TestReleaseLeavesWhatIsTaken(t *testing.T) {
	m := some(t)
	done(t, "Reserve", m.Reserve, 3)
	takes(t, m, 50)
	m.Release()
	done(t, "Taken", m.Taken, 50, 52, 53, 55, 56)
	tells(t, m, 5, 2, api.Run{First: 51, Len: 1}, api.Run{First: 54, Len: 1}, api.Run{First: 57, Len: 3})
}

func TestTaken(t *testing.T) {
	m := some(t)
	done(t, "Taken", m.Taken, 52, 53, 55, 56)
	refused(t, "Taken", m.Taken, 50, 51, 54, 57, 58, 59)
	refused(t, "Taken", m.Taken, strange()...)
	done(t, "Reserve", m.Reserve, 6)
	refused(t, "Taken", m.Taken, 50, 51, 54, 57, 58, 59)
}

// P12.4

func TestRuns(t *testing.T) {
	for _, l := range []struct {
		marked []int
		want   []api.Run
	}{
		{nil, []api.Run{{First: 50, Len: 6}}},
		{[]int{50}, []api.Run{{First: 51, Len: 5}}},
		{[]int{55}, []api.Run{{First: 50, Len: 5}}},
		{[]int{52}, []api.Run{{First: 50, Len: 2}, {First: 53, Len: 3}}},
		{[]int{54, 52, 50}, []api.Run{{First: 51, Len: 1}, {First: 53, Len: 1}, {First: 55, Len: 1}}},
		{[]int{51, 52, 53, 54}, []api.Run{{First: 50, Len: 1}, {First: 55, Len: 1}}},
		{[]int{50, 51, 52, 53, 54}, []api.Run{{First: 55, Len: 1}}},
		{[]int{50, 51, 52, 53, 54, 55}, nil},
	} {
		m := newMap(t, 50, 56)
		done(t, "Mark", m.Mark, l.marked...)
		tells(t, m, 6-len(l.marked), 0, l.want...)
		done(t, "Drop", m.Drop, l.marked...)
		tells(t, m, 6-len(l.marked), len(l.marked), l.want...)
		done(t, "Reserve", m.Reserve, 6-len(l.marked))
		tells(t, m, 0, len(l.marked), l.want...)
		m.Settle()
		tells(t, m, len(l.marked), 0, api.Run{First: 50, Len: 6})
	}
}

// P12.5

func TestAsManyTakesAsAreSetAside(t *testing.T) {
	for n := range 11 {
		m := newMap(t, 50, 60)
		done(t, "Reserve", m.Reserve, n)
		for k := 59; m.Mark(k); k-- { // whoever marks leaves them
		}
		tells(t, m, 0, 0, m.Runs()...)
		for k := range n {
			takes(t, m, 50+k)
		}
		takesNone(t, m)
	}
}

// P12.6

func TestNothingThatIsGivenBackIsTaken(t *testing.T) {
	m := newMap(t, 0, 4)
	takes(t, m, 0, 1, 2, 3)
	done(t, "Drop", m.Drop, 0, 1, 2, 3)
	tells(t, m, 0, 4)
	takesNone(t, m)
	refused(t, "Mark", m.Mark, 0, 1, 2, 3)
	refused(t, "Back", m.Back, 0, 1, 2, 3)
	refused(t, "Reserve", m.Reserve, 1)
	m.Release()
	takesNone(t, m)
	m.Settle()
	takes(t, m, 0, 1, 2, 3)
	takesNone(t, m)
}

// A number that goes and comes often stands among the free ones once.
func TestNothingIsTakenTwice(t *testing.T) {
	m := newMap(t, 0, 3)
	for range 100 {
		done(t, "Mark", m.Mark, 1)
		done(t, "Back", m.Back, 1)
		done(t, "Mark", m.Mark, 2)
		done(t, "Drop", m.Drop, 2)
		m.Settle()
	}
	tells(t, m, 3, 0, api.Run{First: 0, Len: 3})
	takes(t, m, 0, 1, 2)
	takesNone(t, m)
}

func TestAllThatThereAre(t *testing.T) {
	m := newMap(t, 0, 65536)
	for n := 65534; n >= 0; n -= 2 {
		done(t, "Mark", m.Mark, n)
	}
	for n := 1; n < 65536; n += 2 {
		takes(t, m, n)
	}
	takesNone(t, m)
	for n := range 65536 {
		done(t, "Drop", m.Drop, 65535-n)
	}
	tells(t, m, 0, 65536)
	m.Settle()
	tells(t, m, 65536, 0, api.Run{First: 0, Len: 65536})
	for n := range 65536 {
		takes(t, m, n)
	}
	takesNone(t, m)
}

// The chapter's examples

func TestExamples(t *testing.T) {
	m := newMap(t, 50, 54)
	takes(t, m, 50, 51)
	tells(t, m, 2, 0, api.Run{First: 52, Len: 2})
	done(t, "Drop", m.Drop, 50)
	done(t, "Back", m.Back, 51)
	takes(t, m, 51, 52, 53)
	takesNone(t, m)
	m.Settle()
	tells(t, m, 1, 0, api.Run{First: 50, Len: 1})
	takes(t, m, 50)
}

func TestExampleOfReserve(t *testing.T) {
	m := newMap(t, 0, 4)
	done(t, "Reserve", m.Reserve, 3)
	refused(t, "Reserve", m.Reserve, 2)
	tells(t, m, 1, 0, api.Run{First: 0, Len: 4})
	done(t, "Mark", m.Mark, 1)
	refused(t, "Mark", m.Mark, 2)
	takes(t, m, 0)
}

// R4

func TestNilIsEmpty(t *testing.T) {
	m := newMap(t, 5, 5)
	if got := m.Runs(); len(got) != 0 {
		t.Errorf("Runs() = %v", got)
	}
	m = newMap(t, 5, 7)
	takes(t, m, 5, 6)
	if got := m.Runs(); len(got) != 0 {
		t.Errorf("Runs() = %v", got)
	}
}

func TestAnswersAreNewMemory(t *testing.T) {
	m := some(t)
	one, other := m.Runs(), m.Runs()
	clear(one[:cap(one)])
	if !slices.Equal(other, someRuns()) {
		t.Errorf("two answers share memory: %v", other)
	}
	other = append(other, api.Run{First: 1, Len: 1})
	clear(other)
	tells(t, m, 6, 2, someRuns()...)
	takes(t, m, 50, 51, 54, 57, 58, 59)
}

// What was answered stays as it was, whatever comes then.
func TestAnswersStay(t *testing.T) {
	m := some(t)
	runs := m.Runs()
	takes(t, m, 50, 51)
	m.Settle()
	m.Runs()
	if !slices.Equal(runs, someRuns()) {
		t.Errorf("the runs are %v then", runs)
	}
}

func TestMapsAreOfTheirOwn(t *testing.T) {
	one, other := newMap(t, 50, 54), newMap(t, 50, 54)
	takes(t, one, 50, 51)
	done(t, "Drop", one.Drop, 50)
	done(t, "Reserve", one.Reserve, 1)
	tells(t, other, 4, 0, api.Run{First: 50, Len: 4})
	takes(t, other, 50)
	other.Settle()
	other.Release()
	tells(t, one, 1, 1, api.Run{First: 52, Len: 2})
}
