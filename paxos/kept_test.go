package paxos_test

import (
	"math/rand"
	"slices"
	"strconv"
	"testing"

	"rostrum/api"
	"rostrum/ballot"
	"rostrum/paxos"
)

// P9.3: a node that replays another one's records, in order, has its votes, and what it has learned; nothing that was learned changes.

const fewInst = 9

// twin is a node, its records, and one that replays them.
type twin struct {
	t       *testing.T
	seed    int64
	r       *rand.Rand
	n       *paxos.Node
	records []string
	gone    int
	votes   [fewInst + 1]api.Vote // what the acceptors were when they were gone
	learned map[int]string
}

// call lets the node do something, and keeps the record.
func (w *twin) call() {
	inst, b, value := 1+w.r.Intn(fewInst), uint64(w.r.Intn(30))<<(31*w.r.Intn(2)), strconv.Itoa(w.r.Intn(3))
	record := ""
	var e api.Errno
	switch w.r.Intn(7) {
	case 0, 1:
		_, record, e = w.n.Promise(inst, b)
	case 2, 3:
		record, e = w.n.Cast(inst, b, value[:w.r.Intn(2)])
	case 4, 5:
		if record, e = w.n.Learn(inst, value); record != "" {
			w.learned[inst] = value
		}
	case 6:
		w.compact(w.r.Intn(len(w.n.Prefix()) + 1))
	}
	if e != api.OK && record != "" {
		w.t.Fatalf("seed %d: %q beside %d", w.seed, record, e)
	}
	if record != "" {
		w.records = append(w.records, record)
	}
}

func (w *twin) compact(count int) {
	if count <= w.gone || w.r.Intn(3) > 0 {
		return
	}
	for inst := w.gone + 1; inst <= count; inst++ {
		w.votes[inst] = w.n.Vote(inst)
	}
	compacts(w.t, w.n, count, api.OK)
	w.gone = count
}

// isLike holds another node against it: of what is gone here the other one may have the votes.
func (w *twin) isLike(m *paxos.Node, gone int) {
	if got, want := m.Prefix(), w.n.Prefix(); !slices.Equal(got, want) {
		w.t.Fatalf("seed %d: Prefix: %q; want %q", w.seed, got, want)
	}
	for inst := 0; inst <= fewInst+1; inst++ {
		want := w.n.Vote(inst)
		if inst > gone && inst <= w.gone {
			want = w.votes[inst]
		}
		if got := m.Vote(inst); got != want {
			w.t.Fatalf("seed %d: Vote(%d): %v; want %v", w.seed, inst, got, want)
		}
		value, ok := m.Decided(inst)
		if wantV, wantOk := w.n.Decided(inst); value != wantV || ok != wantOk {
			w.t.Fatalf("seed %d: Decided(%d): %q, %v; want %q, %v", w.seed, inst, value, ok, wantV, wantOk)
		}
		if known, knownOk := w.learned[inst]; value != known || ok != knownOk {
			w.t.Fatalf("seed %d: Decided(%d): %q, %v; learned: %q, %v", w.seed, inst, value, ok, known, knownOk)
		}
	}
}

// replay lets a node replay all records.
func (w *twin) replay(m *paxos.Node) {
	for _, record := range w.records {
		if e := m.Replay(record); e != api.OK {
			w.t.Fatalf("seed %d: Replay(%q): %d", w.seed, record, e)
		}
	}
}

func TestReplayedIsLike(t *testing.T) {
	voted, learned, gone := 0, 0, 0
	for seed := range int64(600) {
		w := &twin{t: t, seed: seed, r: rand.New(rand.NewSource(seed)), n: paxos.New(), learned: map[int]string{}}
		along, had := paxos.New(), 0
		for range 60 {
			w.call()
			for ; had < len(w.records); had++ { // one that replays on the way
				replays(t, along, w.records[had], api.OK)
			}
			w.isLike(along, 0)
		}
		m := paxos.New()
		w.replay(m)
		w.isLike(m, 0)
		w.replay(m) // once more, in order, they tell nothing new
		w.isLike(m, 0)
		compacts(t, m, w.gone, api.OK)
		w.isLike(m, w.gone)
		w.replay(m) // and what is gone stays gone
		w.isLike(m, w.gone)
		for _, record := range w.records[:len(w.records)/2] { // old news bring no promise back; a value that was voted for may come back in one ballot alone
			if record[0] != 'v' {
				replays(t, m, record, api.OK)
			}
		}
		w.isLike(m, w.gone)
		learned += len(w.learned)
		gone += w.gone
		for inst := range fewInst {
			if w.n.Vote(inst).Ballot > 0 {
				voted++
			}
		}
	}
	if voted < 1000 || learned < 3000 || gone < 700 {
		t.Errorf("voted %d, learned %d, gone %d", voted, learned, gone)
	}
}

func TestNothingLearnedChanges(t *testing.T) {
	refused := 0
	for seed := range int64(400) {
		r := rand.New(rand.NewSource(seed))
		n, learned, reached := paxos.New(), map[int]string{}, 0
		for range 150 {
			inst, value := 1+r.Intn(fewInst), strconv.Itoa(r.Intn(3))
			var e api.Errno
			switch r.Intn(6) {
			case 0:
				_, e = n.Learn(inst, value)
			case 1:
				e = n.Replay(dRecord(inst, value))
			case 2:
				n.Promise(inst, uint64(r.Intn(99)))
				continue
			case 3:
				n.Cast(inst, uint64(r.Intn(99)), value)
				continue
			case 4:
				n.Compact(r.Intn(reached + 1))
				continue
			case 5:
				n.Replay(vRecord(inst, uint64(r.Intn(99)), value))
				continue
			}
			known, ok := learned[inst]
			if want := ok && known != value; want != (e == api.ErrOne) || !want && e != api.OK {
				t.Fatalf("seed %d: %d of %q, which is %q: %d", seed, inst, value, known, e)
			}
			if e == api.ErrOne {
				refused++
			} else {
				learned[inst] = value
			}
			for inst, known := range learned {
				isDecided(t, n, inst, known, true)
			}
			prefix := n.Prefix()
			if len(prefix) < reached {
				t.Fatalf("seed %d: the prefix was %d long: %q", seed, reached, prefix)
			}
			for reached = range prefix {
				if prefix[reached] != learned[reached+1] {
					t.Fatalf("seed %d: %q; learned: %v", seed, prefix, learned)
				}
			}
			reached = len(prefix)
		}
	}
	if refused < 2000 {
		t.Errorf("refused %d times", refused)
	}
}

// A group of nodes decides, instance by instance, while messages are lost, come twice and late, and nodes crash and replay what they have kept.

// said is one of what nodes tell each other of an instance.
type said struct {
	kind   int
	inst   int
	ballot uint64
	from   int
	vote   api.Vote
	value  string
}

const (
	asked = iota
	promised
	proposed
	voted
	decided
)

// try is a ballot of an instance.
type try struct {
	inst   int
	ballot uint64
}

// group is nodes, what each has kept, and what was said.
type group struct {
	t       *testing.T
	seed    int64
	r       *rand.Rand
	nodes   []*paxos.Node
	kept    [][]string
	gone    []int
	last    uint64
	heard   map[try]map[int]api.Vote
	put     map[try]string
	votes   map[try]map[int]api.Vote
	air     []said
	learned map[int]string
	crashes int
}

func (g *group) ask() {
	inst := 1 + g.r.Intn(fewInst)
	b, e := ballot.Next(g.last, g.r.Intn(len(g.nodes)))
	if e != api.OK {
		g.t.Fatal(e)
	}
	g.last = b
	tried := try{inst, b}
	g.heard[tried], g.votes[tried] = map[int]api.Vote{}, map[int]api.Vote{}
	g.air = append(g.air, slices.Repeat([]said{{kind: asked, inst: inst, ballot: b}}, 2*len(g.nodes))...)
}

// come lets something that was said come to a node.
func (g *group) come(s said) {
	at := g.r.Intn(len(g.nodes))
	n, tried := g.nodes[at], try{s.inst, s.ballot}
	switch s.kind {
	case asked:
		v, record, e := n.Promise(s.inst, s.ballot)
		g.keep(at, record)
		if e == api.OK {
			g.air = append(g.air, said{kind: promised, inst: s.inst, ballot: s.ballot, from: at, vote: v})
		}
	case promised:
		g.heard[tried][s.from] = s.vote
		g.propose(tried)
	case proposed:
		record, e := n.Cast(s.inst, s.ballot, s.value)
		g.keep(at, record)
		if e == api.OK {
			g.air = append(g.air, said{kind: voted, inst: s.inst, ballot: s.ballot, from: at, vote: n.Vote(s.inst)})
		}
	case voted:
		g.votes[tried][s.from] = s.vote
		g.decide(tried)
	case decided:
		g.learn(at, s.inst, s.value)
	}
}

func (g *group) keep(at int, record string) {
	if record != "" {
		g.kept[at] = append(g.kept[at], record)
	}
}

func (g *group) propose(tried try) {
	if _, ok := g.put[tried]; ok {
		return
	}
	var l []api.Vote
	for _, v := range g.heard[tried] {
		l = append(l, v)
	}
	value, e := ballot.Proposal(len(g.nodes), l, strconv.FormatUint(tried.ballot, 10))
	if e == api.OK {
		g.put[tried] = value
		g.air = append(g.air, slices.Repeat([]said{{kind: proposed, inst: tried.inst, ballot: tried.ballot, value: value}}, 2*len(g.nodes))...)
	}
}

func (g *group) decide(tried try) {
	l := make([]api.Vote, len(g.nodes))
	for at, v := range g.votes[tried] {
		l[at] = v
	}
	value, ok, e := ballot.Decided(l)
	if e != api.OK {
		g.t.Fatal(e)
	}
	if ok {
		g.air = append(g.air, slices.Repeat([]said{{kind: decided, inst: tried.inst, value: value}}, len(g.nodes))...)
	}
}

// learn lets a node learn what was decided: never two values for one instance.
func (g *group) learn(at, inst int, value string) {
	record, e := g.nodes[at].Learn(inst, value)
	if known, ok := g.learned[inst]; e != api.OK || ok && known != value {
		g.t.Fatalf("seed %d: Learn(%d, %q): %d; %q was learned", g.seed, inst, value, e, known)
	}
	g.learned[inst] = value
	g.keep(at, record)
	if count := len(g.nodes[at].Prefix()); g.r.Intn(6) == 0 && count > g.gone[at] {
		compacts(g.t, g.nodes[at], count, api.OK)
		g.gone[at] = count
	}
}

// crash lets a node begin anew with what it has kept.
func (g *group) crash(at int) {
	old, n := g.nodes[at], paxos.New()
	for _, record := range g.kept[at] {
		if e := n.Replay(record); e != api.OK {
			g.t.Fatalf("seed %d: Replay(%q): %d", g.seed, record, e)
		}
	}
	for inst := 1; inst <= fewInst; inst++ {
		if got, want := n.Vote(inst), old.Vote(inst); inst > g.gone[at] && got != want {
			g.t.Fatalf("seed %d: Vote(%d): %v; want %v", g.seed, inst, got, want)
		}
	}
	if got, want := n.Prefix(), old.Prefix(); !slices.Equal(got, want) {
		g.t.Fatalf("seed %d: Prefix: %q; want %q", g.seed, got, want)
	}
	g.nodes[at], g.gone[at] = n, 0
	g.crashes++
}

func (g *group) step() {
	switch {
	case len(g.air) == 0 || g.r.Intn(15) == 0:
		g.ask()
		return
	case g.r.Intn(12) == 0:
		g.crash(g.r.Intn(len(g.nodes)))
		return
	}
	at := g.r.Intn(len(g.air))
	if g.r.Intn(2) == 0 {
		at = len(g.air) - 1 // what was said last, so that something is decided
	}
	s := g.air[at]
	if g.r.Intn(6) > 0 { // else it comes once more
		g.air = slices.Delete(g.air, at, at+1)
	}
	if g.r.Intn(10) > 0 { // else it is lost
		g.come(s)
	}
}

func TestGroupKeepsWhatWasDecided(t *testing.T) {
	learned, crashes, behind := 0, 0, 0
	for seed := range int64(250) {
		r := rand.New(rand.NewSource(seed))
		size := 1 + r.Intn(5)
		g := &group{t: t, seed: seed, r: r, kept: make([][]string, size), gone: make([]int, size), heard: map[try]map[int]api.Vote{}, put: map[try]string{}, votes: map[try]map[int]api.Vote{}, learned: map[int]string{}}
		for range size {
			g.nodes = append(g.nodes, paxos.New())
		}
		for range 2500 {
			g.step()
		}
		learned += len(g.learned)
		crashes += g.crashes
		for tried, value := range g.put {
			if value != strconv.FormatUint(tried.ballot, 10) {
				behind++
			}
		}
	}
	if learned < 1500 || crashes < 10000 || behind < 3000 {
		t.Errorf("learned %d, crashes %d, proposed for another one's sake %d", learned, crashes, behind)
	}
}
