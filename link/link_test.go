package link_test

import (
	"math"
	"math/rand"
	"runtime"
	"slices"
	"strconv"
	"strings"
	"testing"
	"unsafe"

	"rostrum/api"
	"rostrum/link"
)

// made is a link that is right.
func made(t *testing.T, self int, peer int, wire int, window int, life uint32) *link.Link {
	t.Helper()
	l, e := link.New(self, peer, wire, window, life)
	if e != api.OK || l == nil {
		t.Fatalf("New(%d, %d, %d, %d, %d): %v, %d", self, peer, wire, window, life, l, e)
	}
	return l
}

// pair are the two ends of a line between 1 and 2, of the lives 7 and 9.
func pair(t *testing.T, window int) (*link.Link, *link.Link) {
	t.Helper()
	return made(t, 1, 2, 2, window, 7), made(t, 2, 1, 2, window, 9)
}

// data is a frame of data from 1 to 2, in the life 7.
func data(seq uint32, ack uint32, s string) api.Frame {
	return api.Frame{Wire: 2, Kind: api.KindData, From: 1, To: 2, Life: 7, Seq: seq, Ack: ack, Data: s}
}

// ack is an answer from 2 to 1.
func ack(life uint32, upTo uint32) api.Frame {
	return api.Frame{Wire: 2, Kind: api.KindAck, From: 2, To: 1, Life: life, Ack: upTo}
}

// sends holds what Send tells against an error.
func sends(t *testing.T, l *link.Link, s string, want api.Errno) {
	t.Helper()
	if got := l.Send(s); got != want {
		t.Fatalf("Send(%.60q): %d; want %d", s, got, want)
	}
}

// gets holds what a frame brings against what should come, and the answers.
func gets(t *testing.T, l *link.Link, f api.Frame, came []string, answers ...api.Frame) {
	t.Helper()
	got, back, e := l.Receive(f)
	if e != api.OK || !slices.Equal(got, came) || !slices.Equal(back, answers) {
		t.Fatalf("Receive(%.200v): %.200q, %v, %d; want %.200q, %v", f, got, back, e, came, answers)
	}
}

// refuses holds that a frame is refused, and that nothing has happened.
func refuses(t *testing.T, l *link.Link, f api.Frame) {
	t.Helper()
	out, marks := l.Out(), l.Marks()
	got, back, e := l.Receive(f)
	if e != api.ErrLink || len(got) != 0 || len(back) != 0 {
		t.Fatalf("Receive(%.200v): %.200q, %v, %d; want %d", f, got, back, e, api.ErrLink)
	}
	holds(t, l, out, marks...)
}

// holds holds what is out, and the marks, against what they should be.
func holds(t *testing.T, l *link.Link, out []api.Frame, marks ...uint32) {
	t.Helper()
	if got := l.Out(); !slices.Equal(got, out) {
		t.Fatalf("Out: %.300v; want %.300v", got, out)
	}
	if got := l.Marks(); !slices.Equal(got, marks) {
		t.Fatalf("Marks: %v; want %v", got, marks)
	}
}

// P6.1: New.

func TestNew(t *testing.T) {
	for self := range 16 {
		for peer := range 16 {
			if self == peer {
				continue
			}
			for _, wire := range []int{1, 2} {
				l := made(t, self, peer, wire, 1, math.MaxUint32)
				holds(t, l, nil, 1, 0, 0, 1)
				sends(t, l, "x", api.OK)
				holds(t, l, []api.Frame{{Wire: wire, Kind: 1, From: self, To: peer, Life: math.MaxUint32, Seq: 1, Data: "x"}}, 2, 1, 0, 1)
			}
		}
	}
	for window := 1; window <= 64; window++ {
		made(t, 0, 15, 1, window, 1)
	}
}

func TestNewOfWrong(t *testing.T) {
	type wrong struct {
		self, peer, wire, window int
		life                     uint32
	}
	all := []wrong{{1, 2, 2, 2, 0}}
	for n := range 16 {
		all = append(all, wrong{n, n, 1, 1, 1})
	}
	for _, n := range []int{-1, -2, 16, 17, 18, 32, 1<<32 + 1, 1<<32 + 3, math.MinInt, math.MaxInt, math.MinInt32, math.MaxInt32} {
		all = append(all, wrong{n, 2, 2, 2, 7}, wrong{1, n, 2, 2, 7}, wrong{n, n, 2, 2, 7})
	}
	for _, n := range []int{0, 3, -1, -2, 4, 256 + 1, 1<<32 + 1, 1<<32 + 2, math.MinInt, math.MaxInt} {
		all = append(all, wrong{1, 2, n, 2, 7})
	}
	for _, n := range []int{0, -1, 65, 66, 128, -64, 1<<32 + 1, math.MinInt, math.MaxInt} {
		all = append(all, wrong{1, 2, 2, n, 7})
	}
	for _, w := range all {
		if l, e := link.New(w.self, w.peer, w.wire, w.window, w.life); l != nil || e != api.ErrArg {
			t.Errorf("New(%v): %v, %d; want %d", w, l, e, api.ErrArg)
		}
	}
}

func TestLinksAreApart(t *testing.T) {
	a, b := made(t, 1, 2, 2, 4, 7), made(t, 1, 2, 2, 4, 7)
	sends(t, a, "x", api.OK)
	gets(t, a, api.Frame{Kind: 1, From: 2, To: 1, Life: 3, Seq: 1}, []string{""}, api.Frame{Wire: 2, Kind: 2, From: 1, To: 2, Life: 3, Ack: 1})
	holds(t, b, nil, 1, 0, 0, 1)
	holds(t, a, []api.Frame{data(1, 1, "x")}, 2, 1, 3, 2)
}

// P6.1: Send and Out.

func TestSend(t *testing.T) {
	l := made(t, 1, 2, 2, 64, 7)
	var want []api.Frame
	for k, s := range []string{"x", "", "", "x", "\x00\xff", "Übergröße", strings.Repeat("d", 4095), strings.Repeat("d", 4096)} {
		sends(t, l, s, api.OK)
		want = append(want, data(uint32(k+1), 0, s))
		holds(t, l, want, uint32(k+2), uint32(k+1), 0, 1)
		// What is sent is sent again and again, the same.
		holds(t, l, want, uint32(k+2), uint32(k+1), 0, 1)
	}
}

func TestSendOfTooMuch(t *testing.T) {
	l := made(t, 1, 2, 2, 1, 7)
	for _, n := range []int{4097, 4098, 8192, 1 << 16, 1<<16 + 1} {
		sends(t, l, strings.Repeat("d", n), api.ErrArg)
	}
	holds(t, l, nil, 1, 0, 0, 1)
	// What was refused has taken no number.
	sends(t, l, "x", api.OK)
	holds(t, l, []api.Frame{data(1, 0, "x")}, 2, 1, 0, 1)
}

func TestSendInTheFull(t *testing.T) {
	for window := 1; window <= 64; window++ {
		l := made(t, 1, 2, 2, window, 7)
		var want []api.Frame
		for k := range window {
			s := strconv.Itoa(k)
			sends(t, l, s, api.OK)
			want = append(want, data(uint32(k+1), 0, s))
		}
		marks := []uint32{uint32(window + 1), uint32(window), 0, 1}
		for range 3 {
			sends(t, l, "x", api.ErrFull)
			// Too much is told first.
			sends(t, l, strings.Repeat("d", 4097), api.ErrArg)
		}
		holds(t, l, want, marks...)
		// One less out, there is room for one.
		gets(t, l, ack(7, 1), nil)
		sends(t, l, "x", api.OK)
		sends(t, l, "y", api.ErrFull)
		want = append(want[1:], data(uint32(window+1), 0, "x"))
		holds(t, l, want, uint32(window+2), uint32(window), 0, 1)
	}
}

// What is out tells what has come, as it is when it is told.
func TestOutTellsWhatHasCome(t *testing.T) {
	a, b := pair(t, 3)
	sends(t, b, "b1", api.OK)
	sends(t, b, "b2", api.OK)
	sends(t, a, "a1", api.OK)
	back := b.Out()
	for k, s := range []string{"b1", "b2"} {
		gets(t, a, back[k], []string{s}, api.Frame{Wire: 2, Kind: 2, From: 1, To: 2, Life: 9, Ack: uint32(k + 1)})
		holds(t, a, []api.Frame{data(1, uint32(k+1), "a1")}, 2, 1, 9, uint32(k+2))
	}
}

// P6.2: Receive of data.

// The chapter's example.
func TestComesOnce(t *testing.T) {
	a, b := pair(t, 2)
	sends(t, a, "x", api.OK)
	f := a.Out()[0]
	gets(t, b, f, []string{"x"}, ack(7, 1))
	gets(t, b, f, nil, ack(7, 1))
	holds(t, b, nil, 1, 0, 7, 2)
}

func TestDataInOrder(t *testing.T) {
	_, b := pair(t, 2)
	for n := uint32(1); n < 100; n++ {
		// Whatever is not waited for is answered, and does not come.
		for _, other := range []uint32{0, n - 1, n + 1, n + 63, n + 64, n + 65, n + 256, n + 1<<16, math.MaxUint32, math.MaxUint32 - 1} {
			gets(t, b, data(other, 0, "no"), nil, ack(7, n-1))
			holds(t, b, nil, 1, 0, 7, n)
		}
		s := strconv.Itoa(int(n))
		gets(t, b, data(n, 0, s), []string{s}, ack(7, n))
		holds(t, b, nil, 1, 0, 7, n+1)
	}
}

func TestLives(t *testing.T) {
	_, b := pair(t, 2)
	in := func(life uint32, seq uint32, s string) api.Frame {
		f := data(seq, 0, s)
		f.Life = life
		return f
	}
	// 0 is no less than the life at first.
	gets(t, b, in(0, 2, "no"), nil, ack(0, 0))
	gets(t, b, in(0, 1, "zero"), []string{"zero"}, ack(0, 1))
	holds(t, b, nil, 1, 0, 0, 2)
	// Of a later life it waits for the first again, whatever comes.
	gets(t, b, in(5, 2, "no"), nil, ack(5, 0))
	holds(t, b, nil, 1, 0, 5, 1)
	gets(t, b, in(5, 1, "five"), []string{"five"}, ack(5, 1))
	gets(t, b, in(5, 2, "more"), []string{"more"}, ack(5, 2))
	gets(t, b, in(6, 1, "six"), []string{"six"}, ack(6, 1))
	holds(t, b, nil, 1, 0, 6, 2)
	// What is older neither comes nor is answered.
	for _, life := range []uint32{0, 1, 4, 5} {
		for _, seq := range []uint32{0, 1, 2, 3, math.MaxUint32} {
			gets(t, b, in(life, seq, "old"), nil)
			holds(t, b, nil, 1, 0, 6, 2)
		}
	}
	gets(t, b, in(6, 2, "on"), []string{"on"}, ack(6, 2))
	gets(t, b, in(math.MaxUint32, 3, "no"), nil, ack(math.MaxUint32, 0))
	gets(t, b, in(math.MaxUint32, 1, "last"), []string{"last"}, ack(math.MaxUint32, 1))
	gets(t, b, in(math.MaxUint32-1, 2, "old"), nil)
	holds(t, b, nil, 1, 0, math.MaxUint32, 2)
}

// Nothing but the nodes and the kind is asked of a frame: its wire, its hint, how long its data are do not matter.
func TestNothingElseIsAsked(t *testing.T) {
	_, b := pair(t, 2)
	n := uint32(1)
	for _, wire := range []int{0, 1, 2, 3, -1, math.MinInt, math.MaxInt} {
		for _, hint := range []uint32{0, 1, math.MaxUint32} {
			for _, s := range []string{"", "x", strings.Repeat("d", 4096), strings.Repeat("d", 4097), strings.Repeat("d", 9000)} {
				f := data(n, 0, s)
				f.Wire, f.Hint = wire, hint
				gets(t, b, f, []string{s}, ack(7, n))
				n++
			}
		}
	}
}

// The acknowledgement within data does nothing.
func TestAckOfDataDoesNothing(t *testing.T) {
	a, _ := pair(t, 4)
	for _, s := range []string{"x", "y", "z"} {
		sends(t, a, s, api.OK)
	}
	for k, n := range []uint32{0, 1, 2, 3, 4, math.MaxUint32} {
		seq := uint32(k + 1)
		for range 2 {
			f := api.Frame{Wire: 2, Kind: api.KindData, From: 2, To: 1, Life: 7, Seq: seq, Ack: n, Data: "d"}
			_, back, e := a.Receive(f)
			if e != api.OK || len(back) != 1 {
				t.Fatal(back, e)
			}
			holds(t, a, []api.Frame{data(1, seq, "x"), data(2, seq, "y"), data(3, seq, "z")}, 4, 3, 7, seq+1)
		}
	}
}

// P6.2: Receive of an acknowledgement.

func TestAck(t *testing.T) {
	for window := 1; window <= 9; window++ {
		for upTo := range uint32(window + 1) {
			a, _ := pair(t, window)
			var want []api.Frame
			for k := range window {
				sends(t, a, strconv.Itoa(k), api.OK)
				want = append(want, data(uint32(k+1), 0, strconv.Itoa(k)))
			}
			next := uint32(window + 1)
			// Of what was not sent, of another life: nothing.
			for _, f := range []api.Frame{ack(7, next), ack(7, next+1), ack(7, math.MaxUint32), ack(7, 0), ack(0, upTo), ack(6, upTo), ack(8, upTo), ack(9, upTo), ack(math.MaxUint32, upTo)} {
				gets(t, a, f, nil)
				holds(t, a, want, next, uint32(window), 0, 1)
			}
			left := want[upTo:]
			// The less one does nothing when a greater one has come.
			for _, n := range []uint32{upTo, upTo, upTo / 2, 0} {
				gets(t, a, ack(7, n), nil)
				holds(t, a, left, next, uint32(len(left)), 0, 1)
			}
			gets(t, a, ack(7, next-1), nil)
			holds(t, a, nil, next, 0, 0, 1)
			sends(t, a, "x", api.OK)
			holds(t, a, []api.Frame{data(next, 0, "x")}, next+1, 1, 0, 1)
		}
	}
}

// Of an acknowledgement its number and its life alone count; it tells nothing of the peer's life.
func TestAckOfOddFields(t *testing.T) {
	a, _ := pair(t, 4)
	for _, s := range []string{"x", "y"} {
		sends(t, a, s, api.OK)
	}
	gets(t, a, api.Frame{Wire: -5, Kind: api.KindAck, From: 2, To: 1, Life: 7, Seq: 1, Ack: 1, Hint: 3, Data: strings.Repeat("d", 5000)}, nil)
	holds(t, a, []api.Frame{data(2, 0, "y")}, 3, 1, 0, 1)
}

func TestAckOfNothingSent(t *testing.T) {
	a, _ := pair(t, 4)
	for _, n := range []uint32{0, 1, 2, math.MaxUint32} {
		gets(t, a, ack(7, n), nil)
		holds(t, a, nil, 1, 0, 0, 1)
	}
}

// P6.2: what is refused.

func TestReceiveOfWrong(t *testing.T) {
	a, b := pair(t, 3)
	sends(t, a, "x", api.OK)
	sends(t, b, "y", api.OK)
	for _, kind := range []int{api.KindData, api.KindAck} {
		right := api.Frame{Wire: 2, Kind: kind, From: 1, To: 2, Life: 9, Seq: 1, Ack: 1}
		for _, n := range []int{0, 2, 3, 15, 16, 17, -1, 1<<32 + 1, math.MinInt, math.MaxInt} {
			f := right
			f.From = n
			refuses(t, b, f)
		}
		for _, n := range []int{0, 1, 3, 15, 16, 18, -1, 1<<32 + 2, math.MinInt, math.MaxInt} {
			f := right
			f.To = n
			refuses(t, b, f)
		}
		// A frame of one's own, and one that was turned round.
		refuses(t, a, right)
		f := right
		f.From, f.To = 2, 1
		refuses(t, b, f)
	}
	for _, kind := range []int{0, 3, 4, 5, 6, 7, 8, 31, 32, -1, -2, 256 + 1, 1<<32 + 1, 1<<32 + 2, math.MinInt, math.MaxInt} {
		refuses(t, b, api.Frame{Wire: 2, Kind: kind, From: 1, To: 2, Life: 9, Seq: 1, Ack: 1})
	}
}

func TestNil(t *testing.T) {
	var l *link.Link
	sends(t, l, "x", api.ErrNil)
	sends(t, l, strings.Repeat("d", 4097), api.ErrNil)
	for _, f := range []api.Frame{{}, data(1, 0, "x"), ack(7, 1)} {
		if got, back, e := l.Receive(f); len(got) != 0 || len(back) != 0 || e != api.ErrNil {
			t.Error(got, back, e)
		}
	}
	if out, marks := l.Out(), l.Marks(); len(out) != 0 || len(marks) != 0 {
		t.Error(out, marks)
	}
}

// Of a link that no call gave nothing is promised, but that no call panics.
func TestLinkOfNoCall(t *testing.T) {
	l := &link.Link{}
	l.Send("x")
	for _, f := range []api.Frame{{}, {Kind: 1}, {Kind: 2}, {Kind: 1, Life: 1, Seq: 1}, {Kind: 2, Ack: 1}} {
		l.Receive(f)
		l.Out()
		l.Marks()
	}
}

// R3: what is answered is new memory, and what is handed in is not kept.

// shares tells whether two texts have memory in common.
func shares(a string, b string) bool {
	if a == "" || b == "" {
		return false
	}
	p, q := uintptr(unsafe.Pointer(unsafe.StringData(a))), uintptr(unsafe.Pointer(unsafe.StringData(b)))
	return p < q+uintptr(len(b)) && q < p+uintptr(len(a))
}

func TestNewMemory(t *testing.T) {
	a, b := pair(t, 3)
	handed := strings.Clone("some bytes that are handed in")
	sends(t, a, handed, api.OK)
	one, two := a.Out(), a.Out()
	if shares(one[0].Data, handed) || shares(two[0].Data, handed) || shares(one[0].Data, two[0].Data) {
		t.Error("Out shares a text")
	}
	one[0] = api.Frame{}
	_ = append(one[:0:cap(one)], make([]api.Frame, cap(one))...)
	if !slices.Equal(a.Out(), two) {
		t.Error("Out shares its list")
	}
	f := two[0]
	came, back, e := b.Receive(f)
	if e != api.OK || shares(came[0], f.Data) {
		t.Error("Receive hands out what was handed in")
	}
	came[0], back[0] = "no", api.Frame{}
	marks := b.Marks()
	marks[0], marks[3] = 77, 77
	holds(t, b, nil, 1, 0, 7, 2)
}

// Of a piece of a long text the piece alone is kept.
func TestHandedInIsNotKept(t *testing.T) {
	l := made(t, 1, 2, 2, 64, 7)
	var before, after runtime.MemStats
	runtime.GC()
	runtime.ReadMemStats(&before)
	for range 64 {
		sends(t, l, strings.Repeat("d", 1<<18)[:9], api.OK)
	}
	runtime.GC()
	runtime.ReadMemStats(&after)
	if n := int64(after.HeapAlloc) - int64(before.HeapAlloc); n > 1<<18 {
		t.Error(n, "bytes are kept")
	}
	runtime.KeepAlive(l)
}

// What is out no more is kept no more, nor is what has come.
func TestNothingIsKept(t *testing.T) {
	a, b := pair(t, 64)
	grown := func(from uint32, to uint32) int64 {
		var before, after runtime.MemStats
		runtime.GC()
		runtime.ReadMemStats(&before)
		for n := from; n < to; n++ {
			sends(t, a, strings.Repeat("d", 4096), api.OK)
			_, back, _ := b.Receive(a.Out()[0])
			gets(t, a, back[0], nil)
		}
		runtime.GC()
		runtime.ReadMemStats(&after)
		return int64(after.HeapAlloc) - int64(before.HeapAlloc)
	}
	if n := grown(1, 5000); n > 1<<17 {
		t.Error(n, "bytes are kept")
	}
	runtime.KeepAlive(a)
	runtime.KeepAlive(b)
}

// P6.3: what comes at the other end.

// line is what is on its way between two ends.
type line struct {
	rand  *rand.Rand
	notes []api.Frame
}

// lays lays frames on the way: each once, twice, or never.
func (w *line) lays(t *testing.T, frames ...api.Frame) {
	t.Helper()
	for _, f := range frames {
		for range w.rand.Intn(3) {
			w.notes = append(w.notes, f)
		}
	}
}

// takes takes any frame out; none, if none is there.
func (w *line) takes() (api.Frame, bool) {
	if len(w.notes) == 0 {
		return api.Frame{}, false
	}
	k := w.rand.Intn(len(w.notes))
	f := w.notes[k]
	w.notes = slices.Delete(w.notes, k, k+1)
	return f, true
}

// run sends so many texts in both directions over a bad line, and holds what comes against them.
func run(t *testing.T, seed int64, window int, many int) {
	w := &line{rand: rand.New(rand.NewSource(seed))}
	ends := [3]*link.Link{1: made(t, 1, 2, 1, window, 3), 2: made(t, 2, 1, 2, window, 4)}
	var sent, came [3][]string
	for step := 0; len(came[1]) < many || len(came[2]) < many; step++ {
		if step > 1<<20 {
			t.Fatal("it does not end", seed, window, len(came[1]), len(came[2]))
		}
		n := 1 + w.rand.Intn(2)
		switch w.rand.Intn(4) {
		case 0:
			s := strconv.Itoa(n) + ":" + strconv.Itoa(len(sent[n]))
			if len(sent[n]) < many && ends[n].Send(s) == api.OK {
				sent[n] = append(sent[n], s)
			}
		case 1:
			if len(w.notes) < 200 {
				w.lays(t, ends[n].Out()...)
			}
		default:
			f, ok := w.takes()
			if !ok {
				continue
			}
			got, back, e := ends[f.To].Receive(f)
			if e != api.OK {
				t.Fatal(f, e)
			}
			came[f.To] = append(came[f.To], got...)
			w.lays(t, back...)
			if from := sent[f.From]; len(came[f.To]) > len(from) || !slices.Equal(came[f.To], from[:len(came[f.To])]) {
				t.Fatalf("at %d came %q; sent was %q", f.To, came[f.To], from)
			}
		}
	}
}

func TestWhateverIsLost(t *testing.T) {
	for seed := range int64(12) {
		for _, window := range []int{1, 2, 5, 64} {
			run(t, seed, window, 150)
		}
	}
}

// If what is sent comes, and the answers, all comes, and nothing is out any more.
func TestAllComes(t *testing.T) {
	for _, window := range []int{1, 3, 64} {
		a, b := pair(t, window)
		var sent, came []string
		for len(sent) < 300 {
			s := strconv.Itoa(len(sent))
			if a.Send(s) == api.OK {
				sent = append(sent, s)
				continue
			}
			for _, f := range a.Out() {
				got, back, _ := b.Receive(f)
				came = append(came, got...)
				gets(t, a, back[0], nil)
			}
			holds(t, a, nil, uint32(len(sent)+1), 0, 0, 1)
		}
		for _, f := range a.Out() {
			got, back, _ := b.Receive(f)
			came = append(came, got...)
			gets(t, a, back[0], nil)
		}
		if !slices.Equal(came, sent) {
			t.Fatalf("%q; want %q", came, sent)
		}
		holds(t, a, nil, 301, 0, 0, 1)
		holds(t, b, nil, 1, 0, 7, 301)
	}
}

// A link of a new life begins at the first; what was under way from the old one does no harm.
func TestNewLife(t *testing.T) {
	a, b := pair(t, 3)
	for _, s := range []string{"x", "y", "z"} {
		sends(t, a, s, api.OK)
	}
	old := a.Out()
	gets(t, b, old[0], []string{"x"}, ack(7, 1))
	gets(t, b, old[1], []string{"y"}, ack(7, 2))
	a = made(t, 1, 2, 2, 3, 8)
	sends(t, a, "p", api.OK)
	sends(t, a, "q", api.OK)
	// An answer to the old life takes nothing out.
	gets(t, a, ack(7, 2), nil)
	out := a.Out()
	gets(t, b, out[1], nil, ack(8, 0))
	gets(t, b, old[2], nil)
	gets(t, b, old[0], nil)
	gets(t, b, out[0], []string{"p"}, ack(8, 1))
	gets(t, b, old[1], nil)
	gets(t, b, out[1], []string{"q"}, ack(8, 2))
	gets(t, a, ack(8, 2), nil)
	holds(t, a, nil, 3, 0, 0, 1)
}

// A link by the chapter's words alone.
type plain struct {
	self, peer, wire, window  int
	life, next, theirs, waits uint32
	out                       []api.Frame
}

func (p *plain) send(s string) api.Errno {
	switch {
	case len(s) > 4096:
		return api.ErrArg
	case len(p.out) >= p.window:
		return api.ErrFull
	}
	p.out = append(p.out, api.Frame{Wire: p.wire, Kind: 1, From: p.self, To: p.peer, Life: p.life, Seq: p.next, Data: s})
	p.next++
	return api.OK
}

func (p *plain) frames() []api.Frame {
	var all []api.Frame
	for _, f := range p.out {
		f.Ack = p.waits - 1
		all = append(all, f)
	}
	return all
}

func (p *plain) receive(f api.Frame) ([]string, []api.Frame, api.Errno) {
	if f.From != p.peer || f.To != p.self || f.Kind != 1 && f.Kind != 2 {
		return nil, nil, api.ErrLink
	}
	if f.Kind == 2 {
		for f.Life == p.life && f.Ack < p.next && len(p.out) > 0 && p.out[0].Seq <= f.Ack {
			p.out = p.out[1:]
		}
		return nil, nil, api.OK
	}
	if f.Life < p.theirs {
		return nil, nil, api.OK
	}
	if f.Life > p.theirs {
		p.theirs, p.waits = f.Life, 1
	}
	var came []string
	if f.Seq == p.waits {
		came = []string{f.Data}
		p.waits++
	}
	return came, []api.Frame{{Wire: p.wire, Kind: 2, From: p.self, To: p.peer, Life: p.theirs, Ack: p.waits - 1}}, api.OK
}

func (p *plain) marks() []uint32 {
	return []uint32{p.next, uint32(len(p.out)), p.theirs, p.waits}
}

// near is a number close to one of some, or any.
func near(r *rand.Rand, some ...uint32) uint32 {
	if r.Intn(12) == 0 {
		return r.Uint32()
	}
	return some[r.Intn(len(some))] + uint32(r.Intn(4)) - 2
}

func TestAsPlainly(t *testing.T) {
	for seed := range int64(40) {
		r := rand.New(rand.NewSource(seed))
		p := &plain{self: r.Intn(16), wire: 1 + r.Intn(2), window: 1 + r.Intn(64), life: 1 + uint32(r.Intn(9)), next: 1, waits: 1}
		p.peer = (p.self + 1 + r.Intn(15)) % 16
		l := made(t, p.self, p.peer, p.wire, p.window, p.life)
		for range 3000 {
			if r.Intn(3) == 0 {
				s := strings.Repeat("s", r.Intn(3))
				sends(t, l, s, p.send(s))
				continue
			}
			f := api.Frame{Wire: r.Intn(4), Kind: r.Intn(4), From: p.peer, To: p.self, Hint: r.Uint32(), Data: strconv.Itoa(r.Intn(99))}
			f.Life, f.Seq, f.Ack = near(r, p.theirs, p.life, p.life), near(r, p.waits, p.waits, 1), near(r, p.next, p.next-uint32(len(p.out)))
			if r.Intn(300) == 0 {
				f.Life = math.MaxUint32 - uint32(r.Intn(2))
			}
			if r.Intn(20) == 0 {
				f.From, f.To = r.Intn(16), r.Intn(16)
			}
			came, back, e := l.Receive(f)
			wantCame, wantBack, want := p.receive(f)
			if e != want || !slices.Equal(came, wantCame) || !slices.Equal(back, wantBack) {
				t.Fatalf("Receive(%v): %q, %v, %d; want %q, %v, %d", f, came, back, e, wantCame, wantBack, want)
			}
			holds(t, l, p.frames(), p.marks()...)
		}
	}
}
