package flight_test

import (
	"math"
	"math/rand"
	"runtime"
	"slices"
	"strings"
	"testing"
	"unsafe"

	"rostrum/api"
	"rostrum/flight"
)

// made is a flight of notes to these nodes, numbered from 1 on, of the texts "a", "b" ..
func made(t *testing.T, to ...int) *flight.Flight {
	t.Helper()
	f := flight.New()
	for k, n := range to {
		sends(t, f, n, string(rune('a'+k%26)), uint32(k+1), api.OK)
	}
	return f
}

// full is a flight with no room left: 1000 notes, to all nodes in turn.
func full(t *testing.T) *flight.Flight {
	t.Helper()
	to := make([]int, 1000)
	for k := range to {
		to[k] = k % 16
	}
	return made(t, to...)
}

// wants holds an error against the one that should be told.
func wants(t *testing.T, what string, got api.Errno, want api.Errno) {
	t.Helper()
	if got != want {
		t.Fatalf("%s: %d; want %d", what, got, want)
	}
}

// sends holds what Send tells against a number, or 0 and an error.
func sends(t *testing.T, f *flight.Flight, to int, s string, want uint32, errno api.Errno) {
	t.Helper()
	if got, e := f.Send(to, s); got != want || e != errno {
		t.Fatalf("Send(%d, %.60q): %d, %d; want %d, %d", to, s, got, e, want, errno)
	}
}

// copies holds what Copy tells against a number, or 0 and an error.
func copies(t *testing.T, f *flight.Flight, at int, want uint32, errno api.Errno) {
	t.Helper()
	if got, e := f.Copy(at); got != want || e != errno {
		t.Fatalf("Copy(%d): %d, %d; want %d, %d", at, got, e, want, errno)
	}
}

// takes holds what Take tells against a note.
func takes(t *testing.T, f *flight.Flight, at int, want api.Note) {
	t.Helper()
	if got, e := f.Take(at); got != want || e != api.OK {
		t.Fatalf("Take(%d): %.60v, %d; want %.60v", at, got, e, want)
	}
}

// holds holds what is in flight against what should be: by All, and by Oldest for each node, and for what is none.
func holds(t *testing.T, f *flight.Flight, want ...api.Note) {
	t.Helper()
	if got := f.All(); !slices.Equal(got, want) {
		t.Fatalf("All: %.200v; want %.200v", got, want)
	}
	for _, to := range append(span(-2, 18), math.MinInt, math.MaxInt, 1<<32) {
		first := slices.IndexFunc(want, func(n api.Note) bool { return n.To == to })
		if got := f.Oldest(to); got != first {
			t.Fatalf("Oldest(%d): %d; want %d", to, got, first)
		}
	}
}

// span are the numbers from one on, up to, not with, another one.
func span(from int, to int) []int {
	var all []int
	for n := from; n < to; n++ {
		all = append(all, n)
	}
	return all
}

// noPlaces are numbers that are no places of so many notes.
func noPlaces(n int) []int {
	return []int{n, n + 1, n + 1000, -1, -n, -n - 1, math.MinInt32, math.MinInt, math.MaxInt32, math.MaxInt, n - 1<<32, n + 1<<32}
}

// P5.1: New and Send.

func TestNew(t *testing.T) {
	f := flight.New()
	if f == nil {
		t.Fatal("nil")
	}
	holds(t, f)
	for _, at := range append(noPlaces(0), 0) {
		wants(t, "Drop of none", f.Drop(at), api.ErrArg)
	}
}

func TestFlightsAreApart(t *testing.T) {
	a, b := made(t, 1, 2), flight.New()
	holds(t, b)
	sends(t, b, 3, "x", 1, api.OK)
	wants(t, "Drop", a.Drop(0), api.OK)
	holds(t, a, api.Note{Id: 2, To: 2, S: "b"})
	holds(t, b, api.Note{Id: 1, To: 3, S: "x"})
}

func TestSend(t *testing.T) {
	f := flight.New()
	var want []api.Note
	for k, s := range []string{"", "a", "a", "\x00", "\xff\xfe", "Übergröße", strings.Repeat("long", 5000)} {
		for to := range 16 {
			id := uint32(16*k + to + 1)
			sends(t, f, to, s, id, api.OK)
			want = append(want, api.Note{Id: id, To: to, S: s})
			holds(t, f, want...)
		}
	}
}

func TestSendToNoNode(t *testing.T) {
	f := made(t, 3, 4)
	for _, to := range []int{-1, -16, 16, 17, 32, math.MinInt, math.MinInt32, math.MaxInt, 1 << 32, 1<<32 + 3} {
		for _, s := range []string{"", "x"} {
			sends(t, f, to, s, 0, api.ErrArg)
		}
	}
	holds(t, f, api.Note{Id: 1, To: 3, S: "a"}, api.Note{Id: 2, To: 4, S: "b"})
	// What was refused has taken no number.
	sends(t, f, 15, "x", 3, api.OK)
}

func TestSendToTheFull(t *testing.T) {
	f := full(t)
	all := f.All()
	for range 3 {
		sends(t, f, 0, "x", 0, api.ErrFull)
		// A wrong node is told first.
		sends(t, f, 16, "x", 0, api.ErrArg)
		sends(t, f, -1, "x", 0, api.ErrArg)
	}
	holds(t, f, all...)
	takes(t, f, 500, all[500])
	all = slices.Delete(all, 500, 501)
	sends(t, f, 7, "x", 1001, api.OK)
	sends(t, f, 0, "x", 0, api.ErrFull)
	holds(t, f, append(all, api.Note{Id: 1001, To: 7, S: "x"})...)
}

// P5.1: Take and Drop.

func TestTakeEachPlace(t *testing.T) {
	for n := 1; n < 8; n++ {
		for at := range n {
			for _, drops := range []bool{false, true} {
				f := made(t, span(0, n)...)
				all := f.All()
				if drops {
					wants(t, "Drop", f.Drop(at), api.OK)
				} else {
					takes(t, f, at, all[at])
				}
				all = slices.Delete(all, at, at+1)
				holds(t, f, all...)
				sends(t, f, 9, "x", uint32(n+1), api.OK)
				holds(t, f, append(all, api.Note{Id: uint32(n + 1), To: 9, S: "x"})...)
			}
		}
	}
}

func TestTakeAll(t *testing.T) {
	for _, last := range []bool{false, true} {
		f := full(t)
		all := f.All()
		for len(all) > 0 {
			at := 0
			if last {
				at = len(all) - 1
			}
			takes(t, f, at, all[at])
			all = slices.Delete(all, at, at+1)
		}
		holds(t, f)
		sends(t, f, 2, "x", 1001, api.OK)
		holds(t, f, api.Note{Id: 1001, To: 2, S: "x"})
	}
}

func TestNoPlace(t *testing.T) {
	for _, n := range []int{0, 1, 2, 5, 999, 1000} {
		f := made(t, make([]int, n)...)
		all := f.All()
		for _, at := range noPlaces(n) {
			if at >= 0 && at < n {
				continue
			}
			if got, e := f.Take(at); got != (api.Note{}) || e != api.ErrArg {
				t.Fatal("Take", at, got, e)
			}
			wants(t, "Drop", f.Drop(at), api.ErrArg)
			wants(t, "Hurt", f.Hurt(at, 0, 1), api.ErrArg)
			// A wrong place is told ahead of there being no room.
			copies(t, f, at, 0, api.ErrArg)
		}
		holds(t, f, all...)
	}
}

// P5.2: Copy.

func TestCopyEachPlace(t *testing.T) {
	for n := 1; n < 6; n++ {
		for at := range n {
			f := made(t, span(10, 10+n)...)
			all := f.All()
			for k := range 3 {
				id := uint32(n + k + 1)
				copies(t, f, at, id, api.OK)
				all = append(all, api.Note{Id: id, To: all[at].To, S: all[at].S})
				holds(t, f, all...)
			}
			// A copy is a note like others: it can be copied.
			id := uint32(n + 4)
			copies(t, f, n+1, id, api.OK)
			holds(t, f, append(all, api.Note{Id: id, To: all[at].To, S: all[at].S})...)
		}
	}
}

// The chapter's example.
func TestCopyHasItsOwnNumber(t *testing.T) {
	f := flight.New()
	sends(t, f, 3, "x", 1, api.OK)
	copies(t, f, 0, 2, api.OK)
	takes(t, f, 1, api.Note{Id: 2, To: 3, S: "x"})
	holds(t, f, api.Note{Id: 1, To: 3, S: "x"})
}

func TestCopyInTheFull(t *testing.T) {
	f := full(t)
	all := f.All()
	for _, at := range []int{0, 1, 500, 999} {
		copies(t, f, at, 0, api.ErrFull)
	}
	holds(t, f, all...)
	wants(t, "Drop", f.Drop(999), api.OK)
	copies(t, f, 999, 0, api.ErrArg)
	copies(t, f, 998, 1001, api.OK)
	copies(t, f, 998, 0, api.ErrFull)
	holds(t, f, append(all[:999:999], api.Note{Id: 1001, To: all[998].To, S: all[998].S})...)
}

// P5.2: Hurt.

// hurt is a change as the document says it: bit by bit, as far as there are any.
func hurt(s string, bit int, mask uint32) string {
	b := []byte(s)
	for k := range 32 {
		if at := bit + k; at < 8*len(b) && mask>>k&1 == 1 {
			b[at/8] ^= 1 << (at % 8)
		}
	}
	return string(b)
}

func TestHurtEachBit(t *testing.T) {
	for _, s := range []string{"a", "ab", "\x00\xff\x80", "rostrum"} {
		for bit := range 8 * len(s) {
			for _, mask := range []uint32{0, 1, 2, 0x80000000, 0x80000001, 0xdeadbeef, math.MaxUint32} {
				f := made(t, 1, 2, 3)
				sends(t, f, 4, s, 4, api.OK)
				sends(t, f, 5, s, 5, api.OK)
				all := f.All()
				wants(t, "Hurt", f.Hurt(3, bit, mask), api.OK)
				all[3].S = hurt(s, bit, mask)
				holds(t, f, all...)
				// Hurt once more, it is as it was.
				wants(t, "Hurt", f.Hurt(3, bit, mask), api.OK)
				all[3].S = s
				holds(t, f, all...)
			}
		}
	}
}

func TestHurtNoBit(t *testing.T) {
	for _, s := range []string{"", "a", "ab", "rostrum"} {
		f := made(t, 1)
		sends(t, f, 2, s, 2, api.OK)
		all := f.All()
		n := 8 * len(s)
		for _, bit := range append(noPlaces(n), n+7, n+8, n+31, math.MaxInt-7) {
			if bit >= 0 && bit < n {
				continue
			}
			for _, mask := range []uint32{0, 1, math.MaxUint32} {
				wants(t, "Hurt", f.Hurt(1, bit, mask), api.ErrArg)
			}
		}
		holds(t, f, all...)
	}
}

// A copy is hurt apart from what it was copied from, and the other way round; a copy of what was hurt is as that is.
func TestHurtAndCopy(t *testing.T) {
	for _, at := range []int{0, 1} {
		f := flight.New()
		sends(t, f, 6, "ab", 1, api.OK)
		copies(t, f, 0, 2, api.OK)
		want := []api.Note{{Id: 1, To: 6, S: "ab"}, {Id: 2, To: 6, S: "ab"}}
		wants(t, "Hurt", f.Hurt(at, 0, 3), api.OK)
		want[at].S = "bb"
		holds(t, f, want...)
		copies(t, f, at, 3, api.OK)
		want = append(want, api.Note{Id: 3, To: 6, S: "bb"})
		holds(t, f, want...)
		wants(t, "Hurt", f.Hurt(2, 8, 1), api.OK)
		want[2].S = "bc"
		holds(t, f, want...)
		takes(t, f, at, want[at])
		takes(t, f, 1, want[2])
		holds(t, f, want[1-at])
	}
}

// P5.2: Oldest and All.

func TestOldest(t *testing.T) {
	f := made(t, 7, 3, 7, 0, 15, 3)
	for to, want := range map[int]int{0: 3, 3: 1, 7: 0, 15: 4, 1: -1, 14: -1, 16: -1, -1: -1, math.MinInt: -1, math.MaxInt: -1, 1<<32 + 7: -1} {
		if got := f.Oldest(to); got != want {
			t.Errorf("Oldest(%d): %d; want %d", to, got, want)
		}
	}
	wants(t, "Drop", f.Drop(0), api.OK)
	if got := f.Oldest(7); got != 1 {
		t.Error("Oldest behind a Drop:", got)
	}
	wants(t, "Drop", f.Drop(1), api.OK)
	if got := f.Oldest(7); got != -1 {
		t.Error("Oldest of none any more:", got)
	}
}

// P5.1, P5.2: a nil flight.

func TestNil(t *testing.T) {
	var f *flight.Flight
	for _, n := range []int{math.MinInt, -1, 0, 1, 15, 16, math.MaxInt} {
		sends(t, f, n, "x", 0, api.ErrNil)
		copies(t, f, n, 0, api.ErrNil)
		if got, e := f.Take(n); got != (api.Note{}) || e != api.ErrNil {
			t.Error("Take", n, got, e)
		}
		wants(t, "Drop", f.Drop(n), api.ErrNil)
		wants(t, "Hurt", f.Hurt(n, n, 1), api.ErrNil)
		if got := f.Oldest(n); got != -1 {
			t.Error("Oldest", n, got)
		}
	}
	if got := f.All(); len(got) != 0 {
		t.Error("All", got)
	}
}

// R1: no call panics, of a flight that New did not make, too.
func TestFlightOfNoCall(t *testing.T) {
	var f flight.Flight
	for range 2 {
		f.Oldest(0)
		f.All()
		f.Take(0)
		f.Drop(0)
		f.Copy(0)
		f.Hurt(0, 0, 1)
		f.Send(0, "x")
		f.Copy(0)
	}
}

// P5.3: what is taken was sent, copied or hurt; each number is taken once at most.

// plain is a flight by the chapter's words alone.
type plain struct {
	last  uint32
	notes []api.Note
}

func (p *plain) isPlace(at int) bool { return at >= 0 && at < len(p.notes) }

func (p *plain) lay(to int, s string) (uint32, api.Errno) {
	if len(p.notes) == 1000 {
		return 0, api.ErrFull
	}
	p.last++
	p.notes = append(p.notes, api.Note{Id: p.last, To: to, S: s})
	return p.last, api.OK
}

func (p *plain) send(to int, s string) (uint32, api.Errno) {
	if to < 0 || to > 15 {
		return 0, api.ErrArg
	}
	return p.lay(to, s)
}

func (p *plain) copy(at int) (uint32, api.Errno) {
	if !p.isPlace(at) {
		return 0, api.ErrArg
	}
	return p.lay(p.notes[at].To, p.notes[at].S)
}

func (p *plain) take(at int) (api.Note, api.Errno) {
	if !p.isPlace(at) {
		return api.Note{}, api.ErrArg
	}
	note := p.notes[at]
	p.notes = slices.Concat(p.notes[:at], p.notes[at+1:])
	return note, api.OK
}

func (p *plain) hurt(at int, bit int, mask uint32) api.Errno {
	if !p.isPlace(at) || bit < 0 || bit >= 8*len(p.notes[at].S) {
		return api.ErrArg
	}
	p.notes[at].S = hurt(p.notes[at].S, bit, mask)
	return api.OK
}

// once notes what was taken, and whether any number was taken already, or never given.
func once(t *testing.T, taken map[uint32]bool, note api.Note, e api.Errno, last uint32) {
	t.Helper()
	if e != api.OK {
		return
	}
	if taken[note.Id] || note.Id < 1 || note.Id > last {
		t.Fatalf("Take of the number %d, of %d", note.Id, last)
	}
	taken[note.Id] = true
}

func TestAsPlainly(t *testing.T) {
	random := rand.New(rand.NewSource(5))
	for _, most := range []int{3, 10, 50} {
		for range 150 {
			f, p, taken := flight.New(), &plain{}, map[uint32]bool{}
			for range 120 {
				at := random.Intn(most) - 1
				switch random.Intn(10) {
				case 0, 1, 2, 3:
					to, s := random.Intn(19)-1, strings.Repeat("xy", random.Intn(6))
					n, e := f.Send(to, s)
					if wantN, wantE := p.send(to, s); n != wantN || e != wantE {
						t.Fatal("Send", n, e, wantN, wantE)
					}
				case 4, 5:
					n, e := f.Copy(at)
					if wantN, wantE := p.copy(at); n != wantN || e != wantE {
						t.Fatal("Copy", n, e, wantN, wantE)
					}
				case 6:
					bit, mask := random.Intn(70)-5, random.Uint32()
					wants(t, "Hurt", f.Hurt(at, bit, mask), p.hurt(at, bit, mask))
				case 7:
					_, e := p.take(at)
					wants(t, "Drop", f.Drop(at), e)
				default:
					note, e := f.Take(at)
					once(t, taken, note, e, p.last)
					if wantNote, wantE := p.take(at); note != wantNote || e != wantE {
						t.Fatal("Take", note, e, wantNote, wantE)
					}
				}
				holds(t, f, p.notes...)
			}
		}
	}
}

// The bound is one of notes that are there, not of numbers that were given.
func TestNumbersGoOn(t *testing.T) {
	f := full(t)
	taken := map[uint32]bool{}
	last := uint32(1000)
	for k := range 5000 {
		note, e := f.Take(k * 7 % 1000)
		wants(t, "Take", e, api.OK)
		once(t, taken, note, e, last)
		last++
		if k%2 == 0 {
			copies(t, f, k%999, last, api.OK)
		} else {
			sends(t, f, k%16, "x", last, api.OK)
		}
	}
	for range 1000 {
		note, e := f.Take(0)
		wants(t, "Take", e, api.OK)
		once(t, taken, note, e, last)
	}
	holds(t, f)
	if len(taken) != 6000 || last != 6000 {
		t.Error(len(taken), last)
	}
}

// R3: answers are new memory, and what is handed in is not kept.

// shares tells whether two texts have a byte in common memory.
func shares(a string, b string) bool {
	if len(a) == 0 || len(b) == 0 {
		return false
	}
	x, y := uintptr(unsafe.Pointer(unsafe.StringData(a))), uintptr(unsafe.Pointer(unsafe.StringData(b)))
	return x < y+uintptr(len(b)) && y < x+uintptr(len(a))
}

func TestAnswersAreNewMemory(t *testing.T) {
	f := flight.New()
	texts := []string{strings.Repeat("a", 40), strings.Repeat("b", 40)}
	for k, s := range texts {
		sends(t, f, k, s, uint32(k+1), api.OK)
	}
	copies(t, f, 0, 3, api.OK)
	copies(t, f, 2, 4, api.OK)
	wants(t, "Hurt", f.Hurt(1, 0, 1), api.OK)
	copies(t, f, 1, 5, api.OK)
	for range 2 {
		for _, note := range f.All() {
			texts = append(texts, note.S)
		}
	}
	for range 5 {
		note, e := f.Take(0)
		wants(t, "Take", e, api.OK)
		texts = append(texts, note.S)
	}
	for k, a := range texts {
		for n, b := range texts[:k] {
			if shares(a, b) {
				t.Errorf("the texts %d and %d", n, k)
			}
		}
	}
}

// Bytes that a caller writes into behind a text's back are the caller's alone.
func TestSendKeepsNothingOfWhatIsHandedIn(t *testing.T) {
	f := flight.New()
	bytes := []byte("rostrum")
	sends(t, f, 1, unsafe.String(&bytes[0], len(bytes)), 1, api.OK)
	copy(bytes, "written")
	holds(t, f, api.Note{Id: 1, To: 1, S: "rostrum"})
}

func TestAnsweredListsAreApart(t *testing.T) {
	f := made(t, 1, 2, 3)
	want := f.All()
	for range 2 {
		list := f.All()
		list = list[:cap(list)]
		for k := range list {
			list[k] = api.Note{Id: 99, To: 9, S: "written"}
		}
		holds(t, f, want...)
	}
	list := f.All()
	wants(t, "Drop", f.Drop(0), api.OK)
	wants(t, "Hurt", f.Hurt(0, 0, 1), api.OK)
	sends(t, f, 4, "x", 4, api.OK)
	if !slices.Equal(list, want) {
		t.Error("what was answered has changed:", list)
	}
}

// R5: copies are no bytes that were given, so that the longest text may be copied up to the limit.
func TestCopiesOfALongText(t *testing.T) {
	const size, room = 1 << 20, 64 << 20
	f := flight.New()
	long := strings.Repeat("x", size)
	sends(t, f, 0, long, 1, api.OK)
	var ahead, behind runtime.MemStats
	runtime.ReadMemStats(&ahead)
	for k := range 999 {
		copies(t, f, k, uint32(k+2), api.OK)
	}
	runtime.ReadMemStats(&behind)
	if used := behind.TotalAlloc - ahead.TotalAlloc; used > room {
		t.Errorf("999 copies of %d bytes took %d", size, used)
	}
	takes(t, f, 999, api.Note{Id: 1000, S: long})
	takes(t, f, 0, api.Note{Id: 1, S: long})
}

// used is how many bytes are in use, but for what could be given back.
func used() int {
	var m runtime.MemStats
	runtime.GC()
	runtime.ReadMemStats(&m)
	return int(m.HeapAlloc)
}

// What is kept is no more than is in flight, from whichever end the notes went.
func TestDroppedTextsAreNotKept(t *testing.T) {
	const size, count = 1 << 18, 64
	for _, ends := range [][]int{{0}, {1}, {0, 1}, {1, 0, 0}} {
		f := made(t, 1)
		ahead := used()
		for k := range count {
			sends(t, f, 3, strings.Repeat("x", size), uint32(k+2), api.OK)
		}
		for k := range count {
			wants(t, "Drop", f.Drop(ends[k%len(ends)]*(count-k)), api.OK)
		}
		if kept := used() - ahead; kept > 2*size {
			t.Errorf("dropped by the ends %d, %d bytes are kept", ends, kept)
		}
		if len(f.All()) != 1 {
			t.Fatal(f.All())
		}
	}
}
