package store_test

import (
	"hash/crc32"
	"math"
	"math/rand"
	"slices"
	"strings"
	"testing"
	"unsafe"

	"rostrum/api"
	"rostrum/store"
)

const bare = 9 // the bytes of a record without data

// word is a number in four bytes, the least first.
func word(n uint32) string {
	return string([]byte{byte(n), byte(n >> 8), byte(n >> 16), byte(n >> 24)})
}

// right is a record's bytes, by the sums of Go's own library.
func right(data string) string {
	s := "4" + word(uint32(len(data))) + data
	return s + word(crc32.ChecksumIEEE([]byte(s)))
}

// sized is data whose record has so many bytes.
func sized(record int) string {
	return strings.Repeat("d", record-bare)
}

// made is a new store.
func made(t *testing.T, capacity int) *store.Store {
	t.Helper()
	s, e := store.New(capacity)
	if s == nil || e != api.OK {
		t.Fatal("New", capacity, s, e)
	}
	return s
}

// wants holds what a call told against what it should tell.
func wants(t *testing.T, what string, got api.Errno, want api.Errno) {
	t.Helper()
	if got != want {
		t.Fatalf("%s: %d; want %d", what, got, want)
	}
}

// stands holds what a store tells as it is against what is wanted.
func stands(t *testing.T, s *store.Store, held int, records ...string) {
	t.Helper()
	if got := s.Records(); !slices.Equal(got, records) {
		t.Fatalf("Records: %.60q; want %.60q", got, records)
	}
	if got := s.Holds(); got != held {
		t.Fatalf("Holds: %d; want %d", got, held)
	}
}

// recovers holds what a store recovers against what is wanted, and what it then holds.
func recovers(t *testing.T, s *store.Store, held int, snapshot string, records ...string) {
	t.Helper()
	got, all, e := s.Recover()
	if got != snapshot || !slices.Equal(all, records) || e != api.OK {
		t.Fatalf("Recover: %.60q, %.60q, %d; want %.60q, %.60q", got, all, e, snapshot, records)
	}
	stands(t, s, held, records...)
}

// isDown asks all calls that a store refuses when it has crashed: with wrong arguments, too, since the crash is told first.
func isDown(t *testing.T, s *store.Store) {
	t.Helper()
	for _, data := range []string{"", "x", strings.Repeat("x", 4096), strings.Repeat("x", 4097), strings.Repeat("x", 1<<20+1)} {
		wants(t, "Write behind a crash", s.Write(data), api.ErrTorn)
		wants(t, "Snapshot behind a crash", s.Snapshot(data), api.ErrTorn)
	}
	for _, keep := range []int{math.MinInt, -1, 0, 1, math.MaxInt} {
		wants(t, "Cut behind a crash", s.Cut(keep), api.ErrTorn)
	}
}

// comesBack takes a store that has crashed through its recovery, and on to the next write: it holds so many bytes ahead of it, so many behind it.
func comesBack(t *testing.T, s *store.Store, torn int, held int, snapshot string, records ...string) {
	t.Helper()
	stands(t, s, torn, records...)
	isDown(t, s)
	stands(t, s, torn, records...)
	recovers(t, s, held, snapshot, records...)
	wants(t, "Write, recovered", s.Write("behind"), api.OK)
	recovers(t, s, held+15, snapshot, slices.Concat(records, []string{"behind"})...)
}

// sample is data of several lengths, and of bytes that are a record's, or begin one.
func sample() []string {
	return []string{"", "a", "4", "4\x00\x00\x00\x00", "\x00", right(""), right("a"), right("alpha")[:13], strings.Repeat("\xff4", 300)}
}

// keeps are cuts around a record's bytes, from none to far more than it has.
func keeps(whole int) []int {
	return []int{0, 1, 4, 5, 8, whole - 4, whole - 1, whole, whole + 1, 2 * whole, 4096, math.MaxInt32, 1 << 32, math.MaxInt}
}

// P4.1: New.

func TestNew(t *testing.T) {
	for _, capacity := range []int{64, 65, 100, 4096, 1<<20 - 1, 1 << 20} {
		s := made(t, capacity)
		stands(t, s, 0)
		recovers(t, s, 0, "")
	}
	for _, capacity := range []int{math.MinInt, -64, -1, 0, 1, 63, 1<<20 + 1, 1<<32 + 64, math.MaxInt} {
		if s, e := store.New(capacity); s != nil || e != api.ErrArg {
			t.Error(capacity, s, e)
		}
	}
}

func TestStoresAreApart(t *testing.T) {
	a, b := made(t, 64), made(t, 64)
	wants(t, "Write", a.Write("a"), api.OK)
	wants(t, "Cut", a.Cut(0), api.OK)
	wants(t, "Write", b.Write("b"), api.OK)
	stands(t, a, 10, "a")
	stands(t, b, 10, "b")
}

// P4.1: Write.

func TestWrite(t *testing.T) {
	s := made(t, 1<<20)
	held := 0
	var want []string
	for _, data := range append(sample(), sample()...) {
		wants(t, "Write", s.Write(data), api.OK)
		held += bare + len(data)
		want = append(want, data)
		stands(t, s, held, want...)
	}
	recovers(t, s, held, "", want...)
}

func TestWriteOfTooMuchData(t *testing.T) {
	s := made(t, 1<<20)
	for _, size := range []int{4097, 4098, 65536, 1 << 20, 1<<20 + 1} {
		wants(t, "Write", s.Write(strings.Repeat("a", size)), api.ErrFull)
		wants(t, "Snapshot", s.Snapshot(strings.Repeat("a", size)), api.ErrFull)
		stands(t, s, 0)
	}
	most := strings.Repeat("a", 4096)
	wants(t, "Write", s.Write(most), api.OK)
	wants(t, "Snapshot", s.Snapshot(most), api.OK)
	wants(t, "Write", s.Write(most), api.OK)
	recovers(t, s, 2*(bare+4096), most, most)
}

func TestWriteToTheCapacity(t *testing.T) {
	for _, capacity := range []int{64, 65, 73, 100, 4105} {
		for _, first := range []int{0, 9, 10, 50} {
			s := made(t, capacity)
			var want []string
			if first > 0 {
				wants(t, "Write", s.Write(sized(first)), api.OK)
				want = append(want, sized(first))
			}
			rest := capacity - first
			for _, over := range []int{1, 2, 9, 100} {
				wants(t, "Write past the capacity", s.Write(sized(max(rest+over, bare))), api.ErrFull)
			}
			stands(t, s, first, want...)
			if rest < bare {
				continue
			}
			wants(t, "Write to the capacity", s.Write(sized(rest)), api.OK)
			wants(t, "Write of no data to the full", s.Write(""), api.ErrFull)
			stands(t, s, capacity, append(want, sized(rest))...)
			recovers(t, s, capacity, "", append(want, sized(rest))...)
			wants(t, "Write to the full, recovered", s.Write(""), api.ErrFull)
		}
	}
}

func TestWriteToTheGreatestCapacity(t *testing.T) {
	s := made(t, 1<<20)
	for k := range 1 << 10 {
		wants(t, "Write", s.Write(sized(1024)), api.OK)
		if s.Holds() != (k+1)*1024 {
			t.Fatal(k, s.Holds())
		}
	}
	wants(t, "Write to the full", s.Write(""), api.ErrFull)
	if _, records, _ := s.Recover(); len(records) != 1<<10 || records[1<<10-1] != sized(1024) || s.Holds() != 1<<20 {
		t.Fatal(len(records), s.Holds())
	}
	wants(t, "Snapshot of the full", s.Snapshot(""), api.OK)
	stands(t, s, bare)
}

// P4.1: Snapshot.

func TestSnapshot(t *testing.T) {
	for _, data := range sample() {
		s := made(t, 1<<20)
		for range 3 {
			wants(t, "Write", s.Write("ahead"), api.OK)
			wants(t, "Write", s.Write(""), api.OK)
			wants(t, "Snapshot", s.Snapshot(data), api.OK)
			stands(t, s, bare+len(data))
			recovers(t, s, bare+len(data), data)
			wants(t, "Write", s.Write("behind"), api.OK)
			stands(t, s, bare+len(data)+15, "behind")
			recovers(t, s, bare+len(data)+15, data, "behind")
		}
	}
}

// A snapshot of no bytes is one: it takes the old one's place, and has a record.
func TestSnapshotOfNoBytes(t *testing.T) {
	s := made(t, 64)
	wants(t, "Snapshot", s.Snapshot("old"), api.OK)
	wants(t, "Write", s.Write("a"), api.OK)
	wants(t, "Snapshot", s.Snapshot(""), api.OK)
	recovers(t, s, bare, "")
	wants(t, "Write past the capacity", s.Write(sized(64-bare+1)), api.ErrFull)
	wants(t, "Write to the capacity", s.Write(sized(64-bare)), api.OK)
	recovers(t, s, 64, "", sized(64-bare))
}

func TestSnapshotToTheCapacity(t *testing.T) {
	s := made(t, 64)
	wants(t, "Write", s.Write(sized(60)), api.OK)
	// Just the new record must have room, be there whatever was.
	wants(t, "Snapshot past the capacity", s.Snapshot(sized(65)), api.ErrFull)
	stands(t, s, 60, sized(60))
	wants(t, "Snapshot to the capacity", s.Snapshot(sized(64)), api.OK)
	stands(t, s, 64)
	wants(t, "Write to the full", s.Write(""), api.ErrFull)
	wants(t, "Snapshot past the capacity", s.Snapshot(sized(65)), api.ErrFull)
	recovers(t, s, 64, sized(64))
	wants(t, "Snapshot in place of a full one", s.Snapshot(sized(64)), api.OK)
	wants(t, "Snapshot", s.Snapshot("b"), api.OK)
	wants(t, "Write past the capacity, with the snapshot", s.Write(sized(55)), api.ErrFull)
	wants(t, "Write to the capacity, with the snapshot", s.Write(sized(54)), api.OK)
	recovers(t, s, 64, "b", sized(54))
}

// P4.2: Cut.

func TestCutRefusesWhatIsBelowNought(t *testing.T) {
	s := made(t, 64)
	for _, keep := range []int{-1, -2, math.MinInt32, math.MinInt} {
		wants(t, "Cut", s.Cut(keep), api.ErrArg)
	}
	wants(t, "Write", s.Write("a"), api.OK)
	wants(t, "Cut", s.Cut(10), api.OK)
	wants(t, "Cut", s.Cut(-1), api.ErrArg)
	// The cut ahead of the refused one holds on.
	wants(t, "Write", s.Write("b"), api.ErrTorn)
	recovers(t, s, 20, "", "a", "b")
}

func TestCutOfAWrite(t *testing.T) {
	for _, data := range sample() {
		whole := bare + len(data)
		for _, keep := range keeps(whole) {
			s := made(t, 1<<20)
			wants(t, "Snapshot", s.Snapshot("snap"), api.OK)
			wants(t, "Write", s.Write("ahead"), api.OK)
			wants(t, "Cut", s.Cut(keep), api.OK)
			stands(t, s, 27, "ahead")
			wants(t, "Write", s.Write(data), api.ErrTorn)
			want := []string{"ahead"}
			held := 27
			if keep >= whole {
				want = append(want, data)
				held += whole
			}
			// What is kept of a torn record is held, till the journal is repaired, but it is not read.
			comesBack(t, s, 27+min(keep, whole), held, "snap", want...)
		}
	}
}

func TestCutOfASnapshot(t *testing.T) {
	for _, data := range sample() {
		whole := bare + len(data)
		for _, keep := range keeps(whole) {
			s := made(t, 1<<20)
			wants(t, "Snapshot", s.Snapshot("snap"), api.OK)
			wants(t, "Write", s.Write("ahead"), api.OK)
			wants(t, "Cut", s.Cut(keep), api.OK)
			wants(t, "Snapshot", s.Snapshot(data), api.ErrTorn)
			snapshot, want, held := "snap", []string{"ahead"}, 27
			if keep >= whole {
				snapshot, want, held = data, nil, whole
			}
			// Nothing is held of a snapshot that is not taken.
			comesBack(t, s, held, held, snapshot, want...)
		}
	}
}

// Without an old snapshot there is none, when the first one is not taken.
func TestCutOfTheFirstSnapshot(t *testing.T) {
	for _, keep := range []int{0, 8, 9, 10} {
		s := made(t, 64)
		wants(t, "Cut", s.Cut(keep), api.OK)
		wants(t, "Snapshot", s.Snapshot("a"), api.ErrTorn)
		if keep < 10 {
			recovers(t, s, 0, "")
		} else {
			recovers(t, s, 10, "a")
		}
	}
}

func TestLaterCutTakesThePlace(t *testing.T) {
	for _, cuts := range [][]int{{3, 10}, {10, 3}, {0, 0, 5}, {math.MaxInt, 0}, {0, math.MaxInt}} {
		s := made(t, 64)
		for _, keep := range cuts {
			wants(t, "Cut", s.Cut(keep), api.OK)
		}
		wants(t, "Write", s.Write("a"), api.ErrTorn)
		if last := cuts[len(cuts)-1]; last < 10 {
			stands(t, s, last)
		} else {
			stands(t, s, 10, "a")
		}
	}
}

// What is refused leaves the cut, whatever the cut would have kept of it.
func TestRefusedWriteLeavesTheCut(t *testing.T) {
	for _, keep := range []int{0, 1, 3, 10, math.MaxInt} {
		s := made(t, 64)
		wants(t, "Write", s.Write(sized(50)), api.OK)
		wants(t, "Cut", s.Cut(keep), api.OK)
		wants(t, "Write past the capacity", s.Write(sized(15)), api.ErrFull)
		wants(t, "Write of too much data", s.Write(strings.Repeat("a", 4097)), api.ErrFull)
		wants(t, "Snapshot past the capacity", s.Snapshot(sized(65)), api.ErrFull)
		wants(t, "Snapshot of too much data", s.Snapshot(strings.Repeat("a", 4097)), api.ErrFull)
		stands(t, s, 50, sized(50))
		wants(t, "Write to the capacity", s.Write(sized(14)), api.ErrTorn)
		stands(t, s, 50+min(keep, 14), []string{sized(50), sized(14)}[:1+min(keep, 14)/14]...)
		isDown(t, s)
	}
}

// A cut meets one write: behind the recovery there is none.
func TestCutMeetsOneWrite(t *testing.T) {
	s := made(t, 1<<20)
	var want []string
	held := 0
	for k := range 20 {
		wants(t, "Cut", s.Cut(k), api.OK)
		wants(t, "Write", s.Write("a"), api.ErrTorn)
		if k >= 10 {
			want = append(want, "a")
			held += 10
		}
		recovers(t, s, held, "", want...)
		wants(t, "Write", s.Write("b"), api.OK)
		want = append(want, "b")
		held += 10
		stands(t, s, held, want...)
	}
	recovers(t, s, held, "", want...)
}

// P4.2: Recover.

func TestRecover(t *testing.T) {
	s := made(t, 64)
	wants(t, "Write", s.Write("a"), api.OK)
	wants(t, "Cut", s.Cut(3), api.OK)
	wants(t, "Write", s.Write("b"), api.ErrTorn)
	// The chapter's example.
	recovers(t, s, 10, "", "a")
	recovers(t, s, 10, "", "a")
}

func TestRecoverWithoutACrash(t *testing.T) {
	s := made(t, 64)
	wants(t, "Snapshot", s.Snapshot("snap"), api.OK)
	wants(t, "Write", s.Write("a"), api.OK)
	recovers(t, s, 23, "snap", "a")
	wants(t, "Cut", s.Cut(3), api.OK)
	// The cut that no write has met is gone, too.
	recovers(t, s, 23, "snap", "a")
	wants(t, "Write", s.Write("b"), api.OK)
	wants(t, "Cut", s.Cut(3), api.OK)
	recovers(t, s, 33, "snap", "a", "b")
	wants(t, "Snapshot", s.Snapshot("next"), api.OK)
	recovers(t, s, 13, "next")
}

// What was torn makes room again.
func TestRecoverMakesRoom(t *testing.T) {
	s := made(t, 64)
	wants(t, "Write", s.Write(sized(40)), api.OK)
	wants(t, "Cut", s.Cut(23), api.OK)
	wants(t, "Write", s.Write(sized(24)), api.ErrTorn)
	stands(t, s, 63, sized(40))
	recovers(t, s, 40, "", sized(40))
	wants(t, "Write", s.Write(sized(24)), api.OK)
	recovers(t, s, 64, "", sized(40), sized(24))
}

// P4.1, P4.2: a nil store.

func TestNil(t *testing.T) {
	var s *store.Store
	for _, data := range []string{"", "a", strings.Repeat("a", 4097)} {
		wants(t, "Write", s.Write(data), api.ErrNil)
		wants(t, "Snapshot", s.Snapshot(data), api.ErrNil)
	}
	for _, keep := range []int{-1, 0, 1} {
		wants(t, "Cut", s.Cut(keep), api.ErrNil)
	}
	if snapshot, records, e := s.Recover(); snapshot != "" || len(records) != 0 || e != api.ErrNil {
		t.Error(snapshot, records, e)
	}
	if len(s.Records()) != 0 || s.Holds() != 0 {
		t.Error(s.Records(), s.Holds())
	}
}

// R1: no call panics, of a store that New did not make, too.
func TestStoreOfNoCall(t *testing.T) {
	for _, steps := range []string{"w", "s", "c", "r", "cw", "cs", "crw", "wcs"} {
		var s store.Store
		for _, step := range steps {
			switch step {
			case 'w':
				s.Write("")
			case 's':
				s.Snapshot("")
			case 'c':
				s.Cut(0)
			case 'r':
				s.Recover()
			}
			s.Holds()
			s.Records()
		}
	}
}

// P4.3: what was written is recovered.

func TestAllCutsOfAllWrites(t *testing.T) {
	all := []string{"alpha", "", right("in"), "4", strings.Repeat("g", 30), ""}
	for cut := range all {
		whole := bare + len(all[cut])
		for keep := 0; keep <= whole+1; keep++ {
			s := made(t, 1<<20)
			held := 0
			for _, data := range all[:cut] {
				wants(t, "Write", s.Write(data), api.OK)
				held += bare + len(data)
			}
			wants(t, "Cut", s.Cut(keep), api.OK)
			wants(t, "Write", s.Write(all[cut]), api.ErrTorn)
			want := slices.Clone(all[:cut])
			if keep >= whole {
				want = append(want, all[cut])
				held += whole
			}
			recovers(t, s, held, "", want...)
			for _, data := range all {
				wants(t, "Write", s.Write(data), api.OK)
				want = append(want, data)
				held += bare + len(data)
			}
			recovers(t, s, held, "", want...)
		}
	}
}

// plain is a store by the chapter's words alone: two texts, and what a cut does to them.
type plain struct {
	capacity int
	snapshot string // its record
	journal  string
	list     []string // the records that are wholly in the journal
	cut      int      // -1: none
	down     bool
}

func (p *plain) write(data string, isSnapshot bool) api.Errno {
	record := right(data)
	held := len(p.journal) + len(p.snapshot) + len(record)
	if isSnapshot {
		held = len(record)
	}
	switch {
	case p.down:
		return api.ErrTorn
	case len(data) > 4096, held > p.capacity:
		return api.ErrFull
	}
	kept := len(record)
	if p.cut >= 0 {
		kept = min(p.cut, kept)
		p.down = true
	}
	switch {
	case !isSnapshot:
		p.journal += record[:kept]
		if kept == len(record) {
			p.list = append(p.list, data)
		}
	case kept == len(record):
		p.snapshot, p.journal, p.list = record, "", nil
	}
	if p.cut >= 0 {
		p.cut = -1
		return api.ErrTorn
	}
	return api.OK
}

func (p *plain) aim(keep int) api.Errno {
	switch {
	case p.down:
		return api.ErrTorn
	case keep < 0:
		return api.ErrArg
	}
	p.cut = keep
	return api.OK
}

func (p *plain) recover() (string, []string) {
	p.journal, p.cut, p.down = "", -1, false
	for _, data := range p.list {
		p.journal += right(data)
	}
	if p.snapshot == "" {
		return "", p.list
	}
	return p.snapshot[5 : len(p.snapshot)-4], p.list
}

func TestAsPlainly(t *testing.T) {
	random := rand.New(rand.NewSource(4))
	for range 400 {
		capacity := []int{64, 100, 5000, 1 << 20}[random.Intn(4)]
		s, p := made(t, capacity), plain{capacity: capacity, cut: -1}
		for range 60 {
			data := strings.Repeat("4\x00ab", 1100)[:[]int{0, 1, 9, 30, 55, 56, 4096, 4097}[random.Intn(8)]]
			switch random.Intn(8) {
			case 0, 1, 2:
				wants(t, "Write", s.Write(data), p.write(data, false))
			case 3:
				wants(t, "Snapshot", s.Snapshot(data), p.write(data, true))
			case 4:
				keep := random.Intn(70) - 5
				wants(t, "Cut", s.Cut(keep), p.aim(keep))
			case 5:
				wants(t, "Cut", s.Cut(4095), p.aim(4095))
			default:
				snapshot, list := p.recover()
				recovers(t, s, len(p.snapshot)+len(p.journal), snapshot, list...)
			}
			stands(t, s, len(p.snapshot)+len(p.journal), p.list...)
		}
	}
}

// R3, R4: answers are new memory, and what is handed in is not kept.

// shares tells whether two texts have a byte in common memory.
func shares(a string, b string) bool {
	if len(a) == 0 || len(b) == 0 {
		return false
	}
	x, y := uintptr(unsafe.Pointer(unsafe.StringData(a))), uintptr(unsafe.Pointer(unsafe.StringData(b)))
	return x < y+uintptr(len(b)) && y < x+uintptr(len(a))
}

func TestAnswersAreNewMemory(t *testing.T) {
	s := made(t, 1<<20)
	given := []string{strings.Repeat("s", 20), strings.Repeat("a", 20), strings.Repeat("b", 20), strings.Repeat("c", 20)}
	wants(t, "Snapshot", s.Snapshot(given[0]), api.OK)
	for _, data := range given[1:] {
		wants(t, "Write", s.Write(data), api.OK)
	}
	all := slices.Clone(given)
	for range 2 {
		snapshot, records, _ := s.Recover()
		all = append(append(all, snapshot), records...)
		all = append(all, s.Records()...)
	}
	for k, a := range all {
		for _, b := range all[:k] {
			if shares(a, b) {
				t.Errorf("%q, %q", a, b)
			}
		}
	}
}

func TestAnsweredListsAreApart(t *testing.T) {
	s := made(t, 1<<20)
	want := []string{"a", "b", "c"}
	for _, data := range want {
		wants(t, "Write", s.Write(data), api.OK)
	}
	first := s.Records()
	_, second, _ := s.Recover()
	for _, list := range [][]string{first, second} {
		list = list[:cap(list)]
		for k := range list {
			list[k] = "written"
		}
	}
	recovers(t, s, 30, "", want...)
	wants(t, "Write", s.Write("d"), api.OK)
	recovers(t, s, 40, "", "a", "b", "c", "d")
}
