package detect_test

import (
	"math"
	"math/rand"
	"runtime"
	"slices"
	"testing"

	"rostrum/api"
	"rostrum/detect"
)

const maxTime = 1152921504606846976

// wrongTimes are above the greatest time.
var wrongTimes = []uint64{maxTime + 1, maxTime + 2, 2 * maxTime, math.MaxInt64, 1 << 63, math.MaxUint64}

// made is a detector that is right.
func made(t *testing.T, self int, n int, b api.Beats, now uint64) *detect.Detector {
	t.Helper()
	d, e := detect.New(self, n, b, now)
	if e != api.OK || d == nil {
		t.Fatalf("New(%d, %d, %v, %d): %v, %d", self, n, b, now, d, e)
	}
	return d
}

// hears holds that a node is heard.
func hears(t *testing.T, d *detect.Detector, node int, now uint64) {
	t.Helper()
	if e := d.Hear(node, now); e != api.OK {
		t.Fatalf("Hear(%d, %d): %d", node, now, e)
	}
}

// ticks holds who is suspected from a Tick on against who should be.
func ticks(t *testing.T, d *detect.Detector, now uint64, want ...int) {
	t.Helper()
	if got, e := d.Tick(now); e != api.OK || !slices.Equal(got, want) {
		t.Fatalf("Tick(%d): %v, %d; want %v", now, got, e, want)
	}
}

// holds holds what is told of a detector against what it should be.
func holds(t *testing.T, d *detect.Detector, leader int, suspects []int, timeouts ...uint64) {
	t.Helper()
	if got := d.Leader(); got != leader {
		t.Fatalf("Leader: %d; want %d", got, leader)
	}
	if got := d.Suspects(); !slices.Equal(got, suspects) {
		t.Fatalf("Suspects: %v; want %v", got, suspects)
	}
	for node, want := range timeouts {
		if got := d.Timeout(node); got != want {
			t.Fatalf("Timeout(%d): %d; want %d", node, got, want)
		}
	}
}

// refuses holds that a Tick, and a Hear of each node, are refused at a time.
func refuses(t *testing.T, d *detect.Detector, n int, now uint64) {
	t.Helper()
	if got, e := d.Tick(now); e != api.ErrDetect || len(got) != 0 {
		t.Fatalf("Tick(%d): %v, %d; want %d", now, got, e, api.ErrDetect)
	}
	for node := range n {
		if e := d.Hear(node, now); e != api.ErrDetect {
			t.Fatalf("Hear(%d, %d): %d; want %d", node, now, e, api.ErrDetect)
		}
	}
}

// The document's examples.

func TestExample(t *testing.T) {
	d := made(t, 0, 3, api.Beats{First: 10, Step: 5, Most: 20}, 0)
	ticks(t, d, 11, 1, 2)
	hears(t, d, 2, 12)
	holds(t, d, 0, []int{1}, 10, 10, 15)
}

// P7.1: New.

func TestNew(t *testing.T) {
	for n := 1; n <= 16; n++ {
		for self := range n {
			for _, now := range []uint64{0, 1, 1000, maxTime - 1, maxTime} {
				d := made(t, self, n, api.Beats{First: 7, Most: 9, Step: 1}, now)
				holds(t, d, 0, nil, slices.Repeat([]uint64{7}, n)...)
				if got := d.Timeout(n); got != 0 {
					t.Errorf("Timeout(%d) among %d: %d", n, n, got)
				}
			}
		}
	}
}

func TestNewOfBeats(t *testing.T) {
	for _, b := range []api.Beats{
		{First: 1, Most: 1}, {First: 1, Most: 1, Step: 1}, {First: 1, Most: maxTime}, {First: maxTime, Most: maxTime},
		{First: maxTime, Most: maxTime, Step: maxTime}, {First: maxTime - 1, Most: maxTime, Step: maxTime}, {First: 5, Most: 5, Step: maxTime},
	} {
		holds(t, made(t, 1, 2, b, 3), 0, nil, b.First, b.First)
	}
}

func TestNewOfWrong(t *testing.T) {
	right := api.Beats{First: 2, Most: 9, Step: 3}
	type wrong struct {
		self, n int
		b       api.Beats
		now     uint64
	}
	var all []wrong
	for _, n := range []int{0, -1, -3, 17, 18, 32, 1<<32 + 3, math.MinInt, math.MinInt + 1, math.MaxInt, math.MinInt32} {
		all = append(all, wrong{0, n, right, 1}, wrong{n, n, right, 1}, wrong{-1, n, right, 1}, wrong{n - 1, n, right, 1})
	}
	for n := 1; n <= 16; n++ {
		for _, self := range []int{-1, -2, n, n + 1, 16, 17, 1 << 32, 1<<32 + n, math.MinInt, math.MaxInt} {
			all = append(all, wrong{self, n, right, 1})
		}
	}
	for _, now := range wrongTimes {
		all = append(all, wrong{1, 3, right, now})
		all = append(all, wrong{1, 3, api.Beats{First: 1, Most: now, Step: 1}, 0})
		all = append(all, wrong{1, 3, api.Beats{First: 1, Most: 1, Step: now}, 0})
		all = append(all, wrong{1, 3, api.Beats{First: now, Most: now, Step: 1}, 0})
		all = append(all, wrong{1, 3, api.Beats{First: now, Most: 9, Step: 1}, 0})
	}
	for _, b := range []api.Beats{{}, {Step: 1}, {Most: 1}, {Most: 5, Step: 1}, {First: 1}, {First: 6, Most: 5, Step: 1}, {First: maxTime, Most: maxTime - 1}} {
		all = append(all, wrong{1, 3, b, 1})
	}
	for _, w := range all {
		if d, e := detect.New(w.self, w.n, w.b, w.now); d != nil || e != api.ErrDetect {
			t.Errorf("New(%v): %v, %d; want %d", w, d, e, api.ErrDetect)
		}
	}
}

func TestDetectorsAreApart(t *testing.T) {
	b := api.Beats{First: 5, Most: 9, Step: 2}
	one, two := made(t, 1, 2, b, 0), made(t, 1, 2, b, 0)
	ticks(t, one, 6, 0)
	hears(t, one, 0, 6)
	holds(t, two, 0, nil, 5, 5)
	ticks(t, two, 5)
	holds(t, one, 0, nil, 7, 5)
}

// P7.1: Hear.

func TestHearKeepsFromBeingSuspected(t *testing.T) {
	d := made(t, 2, 3, api.Beats{First: 10, Most: 30, Step: 5}, 100)
	hears(t, d, 0, 105)
	ticks(t, d, 111, 1)
	ticks(t, d, 115)
	ticks(t, d, 116, 0)
	holds(t, d, 2, []int{0, 1}, 10, 10, 10)
}

func TestHearOfSuspected(t *testing.T) {
	d := made(t, 2, 3, api.Beats{First: 10, Most: 22, Step: 8}, 0)
	ticks(t, d, 11, 0, 1)
	hears(t, d, 1, 11)
	holds(t, d, 1, []int{0}, 10, 18, 10)
	ticks(t, d, 29)
	ticks(t, d, 30, 1)
	hears(t, d, 1, 40)
	holds(t, d, 1, []int{0}, 10, 22, 10) // at most Most
	ticks(t, d, 63, 1)
	hears(t, d, 1, 63)
	holds(t, d, 1, []int{0}, 10, 22, 10)
	hears(t, d, 0, 63)
	holds(t, d, 0, nil, 18, 22, 10)
}

func TestHearOfNotSuspected(t *testing.T) {
	d := made(t, 1, 2, api.Beats{First: 10, Most: 22, Step: 8}, 0)
	ticks(t, d, 11, 0)
	for now := uint64(12); now < 20; now++ { // the first one alone is of a suspected one
		hears(t, d, 0, now)
		holds(t, d, 0, nil, 18, 10)
	}
}

func TestHearLateWithNoTickBetween(t *testing.T) {
	d := made(t, 0, 3, api.Beats{First: 10, Most: 50, Step: 5}, 0)
	ticks(t, d, 10)
	hears(t, d, 1, 1000)
	hears(t, d, 2, 5000)
	hears(t, d, 1, 5000)
	holds(t, d, 0, nil, 10, 10, 10)
	ticks(t, d, 5010)
	ticks(t, d, 5011, 1, 2)
}

func TestHearOfNoNode(t *testing.T) {
	d := made(t, 1, 3, api.Beats{First: 10, Most: 20, Step: 5}, 50)
	ticks(t, d, 61, 0, 2)
	for _, node := range []int{-1, -2, -3, 3, 4, 16, 1 << 32, 1<<32 + 1, math.MinInt, math.MaxInt, math.MinInt32, math.MaxInt32} {
		for _, now := range []uint64{0, 60, 61, 62, maxTime, maxTime + 1, math.MaxUint64} { // the node is held ahead of the time
			if e := d.Hear(node, now); e != api.ErrArg {
				t.Fatalf("Hear(%d, %d): %d; want %d", node, now, e, api.ErrArg)
			}
		}
	}
	holds(t, d, 1, []int{0, 2}, 10, 10, 10)
	hears(t, d, 0, 61) // the times beside the wrong nodes don't count
}

func TestHearOfItself(t *testing.T) {
	d := made(t, 0, 1, api.Beats{First: 1, Most: 9, Step: 2}, 0)
	ticks(t, d, maxTime/2)
	hears(t, d, 0, maxTime/2)
	refuses(t, d, 1, maxTime/2-1) // its time counts like another one's
	ticks(t, d, maxTime)
	hears(t, d, 0, maxTime)
	holds(t, d, 0, nil, 1)
}

// P7.1: Tick.

func TestTick(t *testing.T) {
	for self := range 4 {
		d := made(t, self, 4, api.Beats{First: 3, Most: 9, Step: 2}, 20)
		ticks(t, d, 20)
		ticks(t, d, 23)
		others := slices.DeleteFunc([]int{0, 1, 2, 3}, func(n int) bool { return n == self })
		ticks(t, d, 24, others...)
		ticks(t, d, 24)
		ticks(t, d, 1000)
		holds(t, d, self, others, 3, 3, 3, 3)
	}
}

func TestTickTellsWhoIsNew(t *testing.T) {
	d := made(t, 3, 16, api.Beats{First: 20, Most: 100, Step: 1}, 0)
	want := []int{}
	for node := 15; node >= 0; node-- {
		hears(t, d, node, uint64(15-node))
	}
	for node := 15; node >= 0; node-- {
		if node == 3 {
			ticks(t, d, uint64(36-node))
			continue
		}
		ticks(t, d, uint64(36-node), node)
		want = slices.Insert(want, 0, node)
		leader := 0
		if node == 0 {
			leader = 3
		}
		holds(t, d, leader, want)
	}
	for node := 0; node < 16; node += 5 {
		hears(t, d, node, 36)
	}
	ticks(t, d, 57) // theirs is one more
	ticks(t, d, 58, 0, 5, 10, 15)
}

func TestTickEndsInTheGreatestTime(t *testing.T) {
	d := made(t, 0, 3, api.Beats{First: maxTime - 1, Most: maxTime, Step: maxTime}, 0)
	hears(t, d, 2, 1)
	ticks(t, d, maxTime-1)
	ticks(t, d, maxTime, 1)
	hears(t, d, 1, maxTime)
	hears(t, d, 2, maxTime)
	ticks(t, d, maxTime)
	holds(t, d, 0, nil, maxTime-1, maxTime, maxTime-1)
}

func TestTickNeverAtTheGreatestTimeout(t *testing.T) {
	d := made(t, 0, 2, api.Beats{First: maxTime, Most: maxTime, Step: 1}, 0)
	ticks(t, d, maxTime)
	holds(t, d, 0, nil, maxTime, maxTime)
}

func TestTimesOfWrong(t *testing.T) {
	d := made(t, 1, 3, api.Beats{First: 10, Most: 20, Step: 5}, 50)
	for now := range uint64(50) { // the time that it was made as of was told, too
		refuses(t, d, 3, now)
	}
	hears(t, d, 0, 55)
	refuses(t, d, 3, 54)
	ticks(t, d, 57)
	refuses(t, d, 3, 56)
	hears(t, d, 0, 57)
	ticks(t, d, 57)
	for _, now := range wrongTimes {
		refuses(t, d, 3, now)
	}
	holds(t, d, 0, nil, 10, 10, 10)
	ticks(t, d, 60) // what was refused was not heard, and no time was told by it
	ticks(t, d, 61, 2)
	refuses(t, d, 3, 60)
	holds(t, d, 0, []int{2}, 10, 10, 10)
	hears(t, d, 2, maxTime)
	ticks(t, d, maxTime, 0)
	refuses(t, d, 3, maxTime-1)
	refuses(t, d, 3, 0)
	holds(t, d, 1, []int{0}, 10, 10, 15)
}

// P7.2: Leader, Suspects, Timeout.

func TestLeader(t *testing.T) {
	d := made(t, 2, 4, api.Beats{First: 10, Most: 100, Step: 1}, 0)
	for now, heard := range [][]int{{0, 1, 3}, {1, 3}, {3}, {}} {
		for _, node := range heard {
			hears(t, d, node, uint64(now+1))
		}
	}
	ticks(t, d, 10)
	holds(t, d, 0, nil)
	ticks(t, d, 12, 0)
	holds(t, d, 1, []int{0})
	ticks(t, d, 13, 1)
	holds(t, d, 2, []int{0, 1})
	ticks(t, d, 14, 3)
	holds(t, d, 2, []int{0, 1, 3})
	hears(t, d, 1, 14)
	holds(t, d, 1, []int{0, 3})
	hears(t, d, 3, 14)
	holds(t, d, 1, []int{0})
	hears(t, d, 0, 14)
	holds(t, d, 0, nil)
}

func TestTimeoutOfNoNode(t *testing.T) {
	d := made(t, 1, 3, api.Beats{First: 10, Most: 20, Step: 5}, 50)
	for _, node := range []int{-1, -2, 3, 4, 16, 1 << 32, 1<<32 + 1, math.MinInt, math.MaxInt} {
		if got := d.Timeout(node); got != 0 {
			t.Errorf("Timeout(%d): %d", node, got)
		}
	}
}

// P7.1, P7.2: a nil detector.

func TestNil(t *testing.T) {
	var d *detect.Detector
	for _, node := range []int{-1, 0, 1, 16} {
		for _, now := range []uint64{0, 1, maxTime, math.MaxUint64} {
			if e := d.Hear(node, now); e != api.ErrNil {
				t.Errorf("Hear(%d, %d): %d; want %d", node, now, e, api.ErrNil)
			}
			if got, e := d.Tick(now); len(got) != 0 || e != api.ErrNil {
				t.Errorf("Tick(%d): %v, %d; want %d", now, got, e, api.ErrNil)
			}
		}
	}
	holds(t, d, -1, nil, 0, 0, 0)
}

// R1: no call panics, of a detector that no call gave, neither.

func TestDetectorOfNoCall(t *testing.T) {
	d := &detect.Detector{}
	d.Hear(0, 0)
	d.Tick(1)
	d.Leader()
	d.Suspects()
	d.Timeout(0)
}

// R3: what is answered is new memory, spare room too.

func TestNewMemory(t *testing.T) {
	d := made(t, 0, 4, api.Beats{First: 10, Most: 20, Step: 5}, 0)
	told, e := d.Tick(11)
	if want := []int{1, 2, 3}; e != api.OK || !slices.Equal(told, want) {
		t.Fatal(told, e)
	}
	for _, list := range [][]int{told, d.Suspects()} {
		list = list[:cap(list)]
		for at := range list {
			list[at] = 99
		}
		_ = append(list, 99)
		holds(t, d, 0, []int{1, 2, 3}, 10, 10, 10, 10)
	}
	hears(t, d, 2, 12)
	holds(t, d, 0, []int{1, 3}, 10, 10, 15, 10)
	ticks(t, d, 28, 2)
}

// What is kept from call to call does not grow with the calls.

func TestNothingIsKept(t *testing.T) {
	d := made(t, 0, 16, api.Beats{First: 1, Most: 4, Step: 1}, 0)
	var before, behind runtime.MemStats
	runtime.GC()
	runtime.ReadMemStats(&before)
	for now := uint64(1); now < 200000; now++ {
		hears(t, d, int(now%16), now)
		if _, e := d.Tick(now); e != api.OK {
			t.Fatal(e)
		}
	}
	runtime.GC()
	runtime.ReadMemStats(&behind)
	if behind.HeapAlloc > before.HeapAlloc+1<<20 {
		t.Errorf("kept: %d bytes more", behind.HeapAlloc-before.HeapAlloc)
	}
	runtime.KeepAlive(d)
}

// P7.3: how often a node is suspected; timeouts never fall.

// often is how often node 1 was suspected, of a node that is heard again and again, never later than Most behind the last time.
func often(t *testing.T, r *rand.Rand, b api.Beats, beats int) uint64 {
	t.Helper()
	now := r.Uint64() % 1000
	d := made(t, 0, 2, b, now)
	var count uint64
	for range beats {
		heard := now
		gap := b.Most // as late as may be, most often
		if r.Intn(4) == 0 {
			gap = r.Uint64() % (b.Most + 1)
		}
		for range 1 + r.Intn(3) { // the last tick may come at the time at which it is heard
			now = max(now, heard+gap-r.Uint64()%(gap/4+1))
			before := d.Timeout(1)
			late, e := d.Tick(now)
			if e != api.OK || d.Timeout(1) != before {
				t.Fatalf("Tick(%d): %v, %d; timeout %d, then %d", now, late, e, before, d.Timeout(1))
			}
			count += uint64(len(late))
		}
		now = heard + gap
		before := d.Timeout(1)
		hears(t, d, 1, now)
		if d.Timeout(1) < before {
			t.Fatalf("the timeout fell: %d, then %d", before, d.Timeout(1))
		}
	}
	return count
}

func TestSuspectedNotTooOften(t *testing.T) {
	for seed := range int64(300) {
		r := rand.New(rand.NewSource(seed))
		most := 1 + r.Uint64()%200
		b := api.Beats{First: 1 + r.Uint64()%most, Most: most, Step: 1 + r.Uint64()%(most+most/4+1)}
		if got, bound := often(t, r, b, 400), b.Most/b.Step+1; got > bound {
			t.Fatalf("seed %d, %v: suspected %d times; at most %d", seed, b, got, bound)
		}
	}
}

func TestSuspectedTillTheTimeoutIsMost(t *testing.T) {
	for _, b := range []api.Beats{{First: 1, Most: 20, Step: 1}, {First: 1, Most: 20, Step: 6}, {First: 4, Most: 20, Step: 4}, {First: 1, Most: 20, Step: 21}, {First: 20, Most: 20, Step: 1}} {
		d := made(t, 1, 2, b, 0)
		want := (b.Most - b.First + b.Step - 1) / b.Step
		var count uint64
		for now := uint64(20); now < 2000; now += 20 {
			late, e := d.Tick(now)
			if e != api.OK {
				t.Fatal(e)
			}
			count += uint64(len(late))
			hears(t, d, 0, now)
		}
		if count != want || count > b.Most/b.Step+1 || d.Timeout(0) != b.Most {
			t.Errorf("%v: suspected %d times; want %d; timeout %d", b, count, want, d.Timeout(0))
		}
	}
}

func TestStepOfNothing(t *testing.T) {
	d := made(t, 1, 2, api.Beats{First: 3, Most: 9}, 0)
	for now := uint64(9); now < 900; now += 9 {
		ticks(t, d, now, 0)
		hears(t, d, 0, now)
		holds(t, d, 0, nil, 3, 3)
	}
}

// Whatever comes: as the chapter's words alone tell it.

// plain keeps all that happened, and tells from it.
type plain struct {
	self, n int
	b       api.Beats
	made    uint64
	all     []happened
}

// happened is a Hear, or a Tick (of the node -1).
type happened struct {
	node int
	now  uint64
}

// told is whether a time may be told.
func (p *plain) told(now uint64) bool {
	for _, h := range p.all {
		if now < h.now {
			return false
		}
	}
	return p.made <= now && now <= maxTime
}

// of is whether a node is suspected, and its timeout.
func (p *plain) of(node int) (bool, uint64) {
	last, suspected, timeout := p.made, false, p.b.First
	for _, h := range p.all {
		switch {
		case h.node == node && suspected:
			timeout = min(timeout+p.b.Step, p.b.Most)
			fallthrough
		case h.node == node:
			last, suspected = h.now, false
		case h.node == -1 && h.now > last+timeout:
			suspected = node != p.self
		}
	}
	return suspected, timeout
}

func (p *plain) suspects() []int {
	var all []int
	for node := range p.n {
		if suspected, _ := p.of(node); suspected {
			all = append(all, node)
		}
	}
	return all
}

func (p *plain) hear(node int, now uint64) api.Errno {
	switch {
	case node < 0 || node >= p.n:
		return api.ErrArg
	case !p.told(now):
		return api.ErrDetect
	}
	p.all = append(p.all, happened{node, now})
	return api.OK
}

func (p *plain) tick(now uint64) ([]int, api.Errno) {
	if !p.told(now) {
		return nil, api.ErrDetect
	}
	before := p.suspects()
	p.all = append(p.all, happened{-1, now})
	return slices.DeleteFunc(p.suspects(), func(n int) bool { return slices.Contains(before, n) }), api.OK
}

func (p *plain) leader() int {
	node := 0
	for slices.Contains(p.suspects(), node) {
		node++
	}
	return node
}

func (p *plain) timeouts() []uint64 {
	all := make([]uint64, p.n, p.n+1)
	for node := range all {
		_, all[node] = p.of(node)
	}
	return append(all, 0) // none is behind them
}

func TestAsPlainly(t *testing.T) {
	for seed := range int64(400) {
		r := rand.New(rand.NewSource(seed))
		n := 1 + r.Intn(16)
		most := 1 + r.Uint64()%30
		p := &plain{self: r.Intn(n), n: n, b: api.Beats{First: 1 + r.Uint64()%most, Most: most, Step: r.Uint64() % 12}, made: r.Uint64() % 20}
		if seed%8 == 0 {
			p.made = maxTime - r.Uint64()%200
		}
		d := made(t, p.self, n, p.b, p.made)
		now := p.made
		for step := range 80 {
			at := now + r.Uint64()%6
			if r.Intn(10) == 0 {
				at = now - r.Uint64()%5 // it may come round, far above all times
			}
			if r.Intn(2) == 0 {
				node := r.Intn(n+2) - 1
				if got, want := d.Hear(node, at), p.hear(node, at); got != want {
					t.Fatalf("seed %d, step %d: Hear(%d, %d): %d; want %d", seed, step, node, at, got, want)
				}
			} else {
				got, e := d.Tick(at)
				if want, wantE := p.tick(at); e != wantE || !slices.Equal(got, want) {
					t.Fatalf("seed %d, step %d: Tick(%d): %v, %d; want %v, %d", seed, step, at, got, e, want, wantE)
				}
			}
			if len(p.all) > 0 {
				now = p.all[len(p.all)-1].now
			}
			holds(t, d, p.leader(), p.suspects(), p.timeouts()...)
		}
	}
}
